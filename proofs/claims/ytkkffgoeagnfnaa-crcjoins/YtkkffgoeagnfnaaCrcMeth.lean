/-
  Contracts of the table's methods More, Sum and Join: whether its tables are made or not, each answers the plain function's number and leaves the tables made once; of a nil table nought. Conditions: that the table is as New or as one of these calls leaves it.
-/
import Derived.Test.YtkkffgoeagnfnaaCrcFill
import Derived.Test.YtkkffgoeagnfnaaLen
namespace Go.Proofs.Ytkkffgoeagnfnaa
open Go.RowKit Plain

theorem ix_u8 (r c : Nat) (hc : c < 256) : bits .xor .u8 ((r : Int) % 256) (c : Int) = ((r % 256 ^^^ c : Nat) : Int) := by
  have h := u8_xor_nat (r % 256) c (Nat.mod_lt _ (by omega)) hc
  rw [← h]
  congr 1
theorem wrap_u8i (x : Int) : IntKind.u8.wrap x = x % 256 := by simp [IntKind.wrap, IntKind.bits, IntKind.signed]
set_option maxRecDepth 100000 in
set_option maxHeartbeats 2000000 in
theorem more_any (b : Nat) (sum : Nat) (hsum : sum < 4294967296) (s : ByteArray) (hs : s.size ≤ 9223372036854775807) (w : World) (h : Fresh w b ∨ Ready w b) :
    Calls Try.prog 13 #[.pointer (some ⟨b, 0, none⟩), .int .u32 sum, .string s] w fun e w' => e = .returned (.int .u32 (mrN sum (bf s) s.size : Nat)) ∧ Ready w' b ∧ Tr2 b w w' := by
  have hmf : ∀ (fn : Fn) (first cap : Array Value) (w : World), (Instr.makeFunc fn first cap).run Try.prog w = .ok (.func fn first cap) w := fun _ _ _ _ => rfl
  have hn := nt_lt sum hsum
  have HM : Hid (mrN sum (bf s) s.size = nt (rgS (bf s) (nt sum) s.size)) := rfl
  have HN : Hid (bits .xor .u32 IntKind.u32.max (sum : Int) = ((nt sum : Nat) : Int)) := not_u32 sum hsum
  generalize mrN sum (bf s) s.size = m at *
  generalize nt sum = q at *
  go_enter Try.func13, Try.ntmps13
  go_wp2_with fail
  refine (do_any b w h).mono ?_; rintro e w2 ⟨rfl, hR, hT⟩
  clear h
  go_wp2_with fail
  rw [HN.out]
  go_loopw [7, 21] (fun X i wr => ∃ k X' : Nat, k ≤ s.size ∧ i = .int .i64 k ∧ X' = rgS (bf s) q k ∧ X = .int .u32 X' ∧ Ready wr b ∧ Tr2 b w wr) (fun _ i _ => s.size - (intOf i).toNat)
  case atStart => exact ⟨0, q, by omega, rfl, rfl, rfl, hR, hT⟩
  case round =>
    clear hR hT
    obtain ⟨k, X', hk, rfl, hX, rfl, hR, hT⟩ := hrel
    have hl : X' < 4294967296 := by rw [hX]; exact rgS_lt (bf s) (bf_lt s) q hn k
    by_cases hlt : k < s.size
    · have hb := bf_lt s k
      have hB := bf_at s k hlt
      have hx := ix_u8 X' (bf s k) hb
      have hix : X' % 256 ^^^ bf s k < 256 := Nat.xor_lt_two_pow (n := 8) (Nat.mod_lt _ (by omega)) hb
      have HX : Hid (X' / 256 ^^^ tI (X' % 256 ^^^ bf s k) 8 = rgS (bf s) q (k + 1)) := by
        show _ = _
        rw [by_table, hX]; rfl
      have hx : bits .xor .u8 ((X' : Int) % 256) (((s[k]'hlt).toNat : Nat) : Int) = ((X' % 256 ^^^ bf s k : Nat) : Int) := by rw [hB]; exact hx
      have hx2 : bits .xor .u8 (IntKind.u8.wrap (X' : Int)) (((s[k]'hlt).toNat : Nat) : Int) = ((X' % 256 ^^^ bf s k : Nat) : Int) := by rw [wrap_u8i]; exact hx
      have hc := hR.cb _ hix
      have hl2 : tb8 (X' % 256 ^^^ bf s k) < 4294967296 := tI_lt _ (by omega) 8
      have HV : Hid (tb8 (X' % 256 ^^^ bf s k) = tI (X' % 256 ^^^ bf s k) 8) := rfl
      have HX2 : Hid (bits .xor .u32 ((X' / 256 : Nat) : Int) ((tb8 (X' % 256 ^^^ bf s k) : Nat) : Int) = ((X' / 256 ^^^ tb8 (X' % 256 ^^^ bf s k) : Nat) : Int)) := u32_xor_nat _ _ (by omega) hl2
      have HR : Hid (Ready wr.drew b) := TabIn.drew hR
      have HT : Hid (Tr2 b w wr.drew) := hT.drew
      generalize tb8 (X' % 256 ^^^ bf s k) = V at *
      generalize X' % 256 ^^^ bf s k = ix at *
      have hixI : (ix : Int) < 256 := by omega
      clear hR hT hX hB hb
      go_wp2_with fail
      go_region_held3 (fun w' => w'.cell? ⟨b, 4 + ix, none⟩ = some (.int .u32 (V : Nat))) (go_keep) (fail)
      go_wp2
      go_roundw
      case rel => exact ⟨k + 1, X' / 256 ^^^ V, by omega, by go_num, by rw [HV.out]; exact HX.out, by rw [← HX2.out]; rfl, HR.out, HT.out⟩
      case measure => simp [intOf]; omega
    · obtain rfl : k = s.size := by omega
      have HX : Hid (nt X' = m) := by show _ = _; rw [HM.out, hX]
      clear hX
      go_wp2
      go_ret
      exact ⟨ret_int (by rw [not_u32 _ hl, HX.out]), hR, hT⟩

theorem sum_any (b : Nat) (s : ByteArray) (hs : s.size ≤ 9223372036854775807) (w : World) (h : Fresh w b ∨ Ready w b) :
    Calls Try.prog 12 #[.pointer (some ⟨b, 0, none⟩), .string s] w fun e w' => e = .returned (.int .u32 (smN (bf s) s.size : Nat)) ∧ Ready w' b ∧ Tr2 b w w' := by
  go_enter Try.func12, Try.ntmps12
  go_wp2_with fail
  refine (more_any b 0 (by omega) s hs _ h).mono ?_; rintro e w' ⟨rfl, hR, hT⟩
  go_wp2
  go_ret
  exact ⟨rfl, hR, hT⟩

theorem and1_i64 (m : Nat) (h : m < 9223372036854775808) : bits .and .i64 (m : Int) 1 = ((m % 2 : Nat) : Int) := by
  have h1 : (BitVec.ofInt 64 1).toNat = 2 ^ 1 - 1 := by decide
  have key : (BitVec.ofInt 64 (m : Int) &&& BitVec.ofInt 64 1).toNat = ((m : Int) % ((2 ^ 64 : Nat) : Int)).toNat % 2 ^ 1 := by
    rw [BitVec.toNat_and, BitVec.toNat_ofInt, h1, Nat.and_two_pow_sub_one_eq_mod]
  show IntKind.i64.wrap ((BitVec.ofInt 64 (m : Int) &&& BitVec.ofInt 64 1).toNat : Nat) = _
  rw [key, IntKind.wrap_i64]
  omega
theorem bit_i64 (n k : Nat) (h : n < 9223372036854775808) : bits .and .i64 ((n : Int) / 2 ^ k) 1 = ((n / 2 ^ k % 2 : Nat) : Int) := by
  have e : (n : Int) / 2 ^ k = ((n / 2 ^ k : Nat) : Int) := by rw [Int.natCast_ediv, Int.natCast_pow]; rfl
  rw [e]
  exact and1_i64 _ (Nat.lt_of_le_of_lt (Nat.div_le_self _ _) h)
theorem len_aux : ∀ (f x : Nat), x < 2 ^ f → x < 2 ^ Lib.bitLenAux f x
  | 0, x, h => by simpa [Lib.bitLenAux] using h
  | f + 1, x, h => by
    unfold Lib.bitLenAux
    by_cases h0 : x = 0
    · rw [if_pos h0]; simpa using h0
    · rw [if_neg h0]
      have := len_aux f (x / 2) (by rw [Nat.pow_succ] at h; omega)
      rw [Nat.add_comm, Nat.pow_succ]; omega
theorem len_spec (n : Nat) (h : n < 9223372036854775808) : n < 2 ^ Lib.bitLen n ∧ Lib.bitLen n ≤ 63 :=
  ⟨len_aux 64 n (by omega), Lib.bitLen_le n 63 (by omega) (by omega)⟩
theorem mv_step (a k n : Nat) (ha : a < 4294967296) (hb : n / 2 ^ k % 2 = 1) : prN (tI a (8 * (n % 2 ^ k))) (mv8 k) = tI a (8 * (n % 2 ^ (k + 1))) := by
  unfold mv8
  rw [prN_pow _ _ (tI_lt a ha _), ← tI_add]
  congr 1
  rw [Nat.pow_succ, Nat.mod_mul, hb]; omega
theorem mv_none (k n : Nat) (hb : ¬ n / 2 ^ k % 2 = 1) : n % 2 ^ (k + 1) = n % 2 ^ k := by
  rw [Nat.pow_succ, Nat.mod_mul, show n / 2 ^ k % 2 = 0 by omega]; omega
set_option maxRecDepth 100000 in
set_option maxHeartbeats 2000000 in
theorem join_any (b : Nat) (x y : Nat) (hx : x < 4294967296) (hy : y < 4294967296) (n : Int) (hn : n ≤ 9223372036854775807) (w : World) (h : Fresh w b ∨ Ready w b) :
    Calls Try.prog 15 #[.pointer (some ⟨b, 0, none⟩), .int .u32 x, .int .u32 y, .int .i64 n] w fun e w' => e = .returned (.int .u32 (jnV x y n : Nat)) ∧ Ready w' b ∧ Tr2 b w w' := by
  have hmf : ∀ (fn : Fn) (first cap : Array Value) (w : World), (Instr.makeFunc fn first cap).run Try.prog w = .ok (.func fn first cap) w := fun _ _ _ _ => rfl
  by_cases h1 : n < 1
  · have HV : Hid (jnV x y n = x) := jnV_low x y n h1
    go_enter Try.func15, Try.ntmps15
    go_wp2_with fail
    refine (do_any b w h).mono ?_; rintro e w2 ⟨rfl, hR, hT⟩
    go_wp2
    go_ret
    exact ⟨ret_int (by rw [HV.out]), hR, hT⟩
  obtain ⟨m, rfl⟩ : ∃ m : Nat, n = m := ⟨n.toNat, by omega⟩
  have HV : Hid (jnV x y m = tI x (8 * m) ^^^ y) := jnV_nat x y m (by omega)
  have hL := len_spec m (by omega)
  have hlen := fun w => Try.bits_Len (m : Int) w (by omega) (by omega)
  rw [Int.toNat_natCast] at hlen
  generalize jnV x y m = v at *
  generalize Lib.bitLen m = L at *
  have HL : Hid (m < 2 ^ L) := hL.1
  have hL := hL.2
  go_enter Try.func15, Try.ntmps15
  go_wp2_with fail
  refine (do_any b w h).mono ?_; rintro e w2 ⟨rfl, hR, hT⟩
  clear h
  go_wp2_with fail
  refine (hlen _).mono ?_; rintro e w3 ⟨rfl, rfl⟩
  clear hlen
  go_wp2_with fail
  go_loop [1, 24] (fun X i => ∃ k X' : Nat, k ≤ L ∧ i = .int .i64 k ∧ X' = tI x (8 * (m % 2 ^ k)) ∧ X = .int .u32 X') (fun _ i => L - (intOf i).toNat)
  case atStart => exact ⟨0, x, by omega, rfl, by rw [show m % 2 ^ 0 = 0 by omega]; rfl, rfl⟩
  case round =>
    obtain ⟨k, X', hk, rfl, hX, rfl⟩ := hrel
    have hl : X' < 4294967296 := by rw [hX]; exact tI_lt x hx _
    by_cases hlt : k < L
    · have hbi := bit_i64 m k (by omega)
      by_cases hb : m / 2 ^ k % 2 = 1
      · have ht : (bits .and .i64 ((m : Int) / 2 ^ k) 1 == 1) = true := by rw [hbi, hb]; rfl
        have hc := hR.cm k (by omega)
        have HP : Hid (prN X' (mv8 k) = tI x (8 * (m % 2 ^ (k + 1)))) := by show _ = _; rw [hX]; exact mv_step x k m hx hb
        have hv := mv8_lt k
        generalize mv8 k = V at *
        clear hX hbi hb
        go_wp2_with fail
        refine (product_any X' V hl hv _).mono ?_; rintro e w' ⟨rfl, rfl⟩
        go_wp2
        go_round
        case rel => exact ⟨k + 1, prN X' V, by omega, by go_num, HP.out, rfl⟩
        case measure => simp [intOf]; omega
      · have ht : (bits .and .i64 ((m : Int) / 2 ^ k) 1 == 1) = false := by rw [hbi, show m / 2 ^ k % 2 = 0 by omega]; rfl
        have HP : Hid (X' = tI x (8 * (m % 2 ^ (k + 1)))) := by show _ = _; rw [hX, mv_none k m hb]
        clear hX hbi hb
        go_wp2
        go_round
        case rel => exact ⟨k + 1, X', by omega, by go_num, HP.out, rfl⟩
        case measure => simp [intOf]; omega
    · obtain rfl : k = L := by omega
      have HX : Hid (bits .xor .u32 (X' : Int) (y : Int) = (v : Int)) := by
        show _ = _
        rw [u32_xor_nat _ _ hl hy, HV.out, hX, Nat.mod_eq_of_lt HL.out]
      clear hX
      go_wp2
      go_ret
      exact ⟨ret_int HX.out, hR, hT⟩

/-- the same where the tables are made: nothing but draws. -/
theorem sum_kp (b : Nat) (s : ByteArray) (hs : s.size ≤ 9223372036854775807) (w : World) (h : Ready w b) :
    Calls Try.prog 12 #[.pointer (some ⟨b, 0, none⟩), .string s] w fun e w' => e = .returned (.int .u32 (smN (bf s) s.size : Nat)) ∧ Kp w w' :=
  (sum_any b s hs w (Or.inr h)).mono fun _ _ ⟨he, _, hT⟩ => ⟨he, hT.kp h⟩
theorem more_kp (b : Nat) (sum : Nat) (hsum : sum < 4294967296) (s : ByteArray) (hs : s.size ≤ 9223372036854775807) (w : World) (h : Ready w b) :
    Calls Try.prog 13 #[.pointer (some ⟨b, 0, none⟩), .int .u32 sum, .string s] w fun e w' => e = .returned (.int .u32 (mrN sum (bf s) s.size : Nat)) ∧ Kp w w' :=
  (more_any b sum hsum s hs w (Or.inr h)).mono fun _ _ ⟨he, _, hT⟩ => ⟨he, hT.kp h⟩
theorem join_kp (b : Nat) (x y : Nat) (hx : x < 4294967296) (hy : y < 4294967296) (n : Int) (hn : n ≤ 9223372036854775807) (w : World) (h : Ready w b) :
    Calls Try.prog 15 #[.pointer (some ⟨b, 0, none⟩), .int .u32 x, .int .u32 y, .int .i64 n] w fun e w' => e = .returned (.int .u32 (jnV x y n : Nat)) ∧ Kp w w' :=
  (join_any b x y hx hy n hn w (Or.inr h)).mono fun _ _ ⟨he, _, hT⟩ => ⟨he, hT.kp h⟩
/-! ### of a nil table -/
theorem nmore (x y : Value) (w : World) : Calls Try.prog 13 #[.pointer none, x, y] w fun e w' => e = .returned (.int .u32 0) ∧ w' = w := by
  go_enter Try.func13, Try.ntmps13
  go_wp2
  go_ret
  exact ⟨rfl, rfl⟩
theorem nsum (x : Value) (w : World) : Calls Try.prog 12 #[.pointer none, x] w fun e w' => e = .returned (.int .u32 0) ∧ w' = w := by
  go_enter Try.func12, Try.ntmps12
  go_wp2_with fail
  refine (nmore _ _ _).mono ?_; rintro e w' ⟨rfl, rfl⟩
  go_wp2
  go_ret
  exact ⟨rfl, rfl⟩
theorem njoin (x y z : Value) (w : World) : Calls Try.prog 15 #[.pointer none, x, y, z] w fun e w' => e = .returned (.int .u32 0) ∧ w' = w := by
  go_enter Try.func15, Try.ntmps15
  go_wp2
  go_ret
  exact ⟨rfl, rfl⟩

end Go.Proofs.Ytkkffgoeagnfnaa
