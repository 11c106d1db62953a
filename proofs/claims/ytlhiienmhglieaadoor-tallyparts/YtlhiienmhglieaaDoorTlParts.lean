/-
  Contracts of a tally's Part, of the document's Part and Name. Conditions: what the tally's cells hold.
-/
import Derived.Test.YtlhiienmhglieaaDoorTlDiv
import Derived.Test.YtlhiienmhglieaaDoorTlRef
namespace Go.Proofs.YtlhiienmhglieaaDoor
open Go.RowKit
set_option linter.unusedVariables false

set_option maxHeartbeats 2000000 in
theorem part_ex (t : Nat) (s : TS) (k o : Int) (w : World) (h : TlIn w t s) (hk : 0 ≤ k ∧ k < 9) (hO : 0 ≤ o ∧ o < 9) (a b : Nat) (ea : s.c k.toNat = a) (eb : s.c o.toNat = b) (ha : a ≤ 4611686018427387904) (hb : b ≤ 4611686018427387904) (h0 : 0 < a + b)
    (hD : Calls Tryd.prog 31 #[.int .u64 ((a * 1000 / 18446744073709551616 : Nat) : Int), .int .u64 ((a * 1000 % 18446744073709551616 : Nat) : Int), .int .u64 ((a + b : Nat) : Int)] w fun e w' => (∃ r : Int, e = .returned (.tuple #[.int .u64 ((ptI a b : Nat) : Int), .int .u64 r])) ∧ Kp w w') :
    Calls Tryd.prog 15 #[.pointer (some ⟨t, 0, none⟩), .int .i64 k, .int .i64 o] w fun e w' => e = .returned (.int .i64 (ptI a b : Nat)) ∧ Kp w w' := by
  have hK1 := known_any k w
  rw [show knB k = true from decide_eq_true hk] at hK1
  have hK2 := known_any o w
  rw [show knB o = true from decide_eq_true hO] at hK2
  have hG1 := get_any t s k w h
  rw [show gt s k = a by unfold gt; rw [if_pos hk, ea]] at hG1
  have hG2 := get_any t s o w h
  rw [show gt s o = b by unfold gt; rw [if_pos hO, eb]] at hG2
  have hM := mul_any a 1000 (by omega) (by omega) w
  rw [show ((1000 : Nat) : Int) = 1000 by rfl] at hM
  have hu1 : IntKind.u64.wrap (a : Int) = a := by rw [IntKind.wrap_u64]; omega
  have hu2 : IntKind.u64.wrap (b : Int) = b := by rw [IntKind.wrap_u64]; omega
  have hu3 : IntKind.u64.wrap ((a : Int) + b) = ((a + b : Nat) : Int) := by rw [IntKind.wrap_u64]; omega
  have hp : ptI a b ≤ 1000 := Nat.div_le_of_le_mul (by rw [Nat.mul_comm (a + b)]; exact Nat.mul_le_mul_left 1000 (by omega))
  have hu4 : IntKind.i64.wrap ((ptI a b : Nat) : Int) = (ptI a b : Nat) := by rw [IntKind.wrap_i64]; omega
  have hne : ¬ ((a + b : Nat) : Int) = 0 := by omega
  clear ea eb hk hO h
  obtain ⟨q, hq⟩ : ∃ q, q = ptI a b := ⟨_, rfl⟩
  rw [← hq] at hD hu4 hp ⊢
  obtain ⟨hi, hhi⟩ : ∃ hi, hi = a * 1000 / 18446744073709551616 := ⟨_, rfl⟩
  obtain ⟨lo, hlo⟩ : ∃ lo, lo = a * 1000 % 18446744073709551616 := ⟨_, rfl⟩
  rw [← hhi, ← hlo] at hD hM
  clear hq hhi hlo
  go_enter Tryd.func15, Tryd.ntmps15
  go_wp2_with fail
  refine hK1.mono ?_; rintro e w1 ⟨rfl, rfl⟩
  go_wp2_with fail
  refine hK2.mono ?_; rintro e w2 ⟨rfl, rfl⟩
  go_wp2_with fail
  refine hG1.mono ?_; rintro e w3 ⟨rfl, rfl⟩
  go_wp2_with fail
  refine hG2.mono ?_; rintro e w4 ⟨rfl, rfl⟩
  go_wp2_with fail
  refine hM.mono ?_; rintro e w5 ⟨rfl, rfl⟩
  go_wp2_with fail
  refine hD.mono ?_; rintro e w6 ⟨⟨rr, rfl⟩, k6⟩
  go_wp2
  go_ret
  exact ⟨rfl, k6⟩


/-- what Part answers. -/
def pI (s : TS) (k o : Int) : Nat := if (0 ≤ k ∧ k < 9) ∧ 0 ≤ o ∧ o < 9 then ptI (s.c k.toNat).toNat (s.c o.toNat).toNat else 0
theorem pt_div (a b : Nat) : (a * 1000 / 18446744073709551616 * 18446744073709551616 + a * 1000 % 18446744073709551616) / (a + b) = ptI a b := by
  rw [Nat.div_add_mod' (a * 1000) 18446744073709551616, Nat.mul_comm]; rfl
theorem pt_le (a b : Nat) : ptI a b ≤ 1000 := Nat.div_le_of_le_mul (by rw [Nat.mul_comm (a + b)]; exact Nat.mul_le_mul_left 1000 (by omega))

set_option maxHeartbeats 2000000 in
theorem part_any (t : Nat) (s : TS) (N k o : Int) (w : World) (h : TlIn w t s) (hO : Ok s N) : Calls Tryd.prog 15 #[.pointer (some ⟨t, 0, none⟩), .int .i64 k, .int .i64 o] w fun e w' => e = .returned (.int .i64 (pI s k o : Nat)) ∧ Kp w w' := by
  have hK1 := known_any k w
  have hK2 := known_any o w
  unfold pI
  by_cases hk : 0 ≤ k ∧ k < 9
  · rw [show knB k = true from decide_eq_true hk] at hK1
    by_cases ho : 0 ≤ o ∧ o < 9
    · rw [if_pos ⟨hk, ho⟩]
      rw [show knB o = true from decide_eq_true ho] at hK2
      have ha := hO.c k.toNat
      have hb := hO.c o.toNat
      obtain ⟨a, ea⟩ : ∃ a : Nat, s.c k.toNat = a := ⟨(s.c k.toNat).toNat, by omega⟩
      obtain ⟨b, eb⟩ : ∃ b : Nat, s.c o.toNat = b := ⟨(s.c o.toNat).toNat, by omega⟩
      rw [ea, eb]
      rw [ea] at ha
      rw [eb] at hb
      rw [show ((a : Nat) : Int).toNat = a by omega, show ((b : Nat) : Int).toNat = b by omega]
      by_cases h0 : 0 < a + b
      · refine part_ex t s k o w h hk ho a b ea eb (by omega) (by omega) h0 ?_
        have hq := pt_div a b
        have hle := pt_le a b
        by_cases hz : a * 1000 / 18446744073709551616 = 0
        · rw [hz] at hq ⊢
          have hl : a * 1000 % 18446744073709551616 < 18446744073709551616 := Nat.mod_lt _ (by omega)
          refine (div_low (a * 1000 % 18446744073709551616) (a + b) hl (by omega) h0 w).mono ?_
          rintro e w' ⟨rfl, kk⟩
          refine ⟨⟨((a * 1000 % 18446744073709551616 % (a + b) : Nat) : Int), ?_⟩, kk⟩
          rw [Nat.zero_mul, Nat.zero_add] at hq
          rw [hq]
        · have hl : a * 1000 % 18446744073709551616 < 18446744073709551616 := Nat.mod_lt _ (by omega)
          have hlt : a * 1000 / 18446744073709551616 < a + b := by omega
          have := div_any (a * 1000 / 18446744073709551616) (a * 1000 % 18446744073709551616) (a + b) (by omega) hl (by omega) hlt (by rw [hq]; exact hle) w
          rwa [hq] at this
      · have a0 : a = 0 := by omega
        have b0 : b = 0 := by omega
        subst a0 b0
        have hG1 := get_any t s k w h
        rw [show gt s k = 0 by unfold gt; rw [if_pos hk, ea]; rfl] at hG1
        have hG2 := get_any t s o w h
        rw [show gt s o = 0 by unfold gt; rw [if_pos ho, eb]; rfl] at hG2
        clear ea eb ha hb hk ho h h0
        rw [show ptI 0 0 = 0 by decide]
        go_enter Tryd.func15, Tryd.ntmps15
        go_wp2_with fail
        refine hK1.mono ?_; rintro e w1 ⟨rfl, rfl⟩
        go_wp2_with fail
        refine hK2.mono ?_; rintro e w2 ⟨rfl, rfl⟩
        go_wp2_with fail
        refine hG1.mono ?_; rintro e w3 ⟨rfl, rfl⟩
        go_wp2_with fail
        refine hG2.mono ?_; rintro e w4 ⟨rfl, rfl⟩
        go_wp2
        go_ret
        exact ⟨rfl, Kp.refl _⟩
    · rw [if_neg (fun hh => ho hh.2)]
      rw [show knB o = false from decide_eq_false ho] at hK2
      clear hk ho h
      go_enter Tryd.func15, Tryd.ntmps15
      go_wp2_with fail
      refine hK1.mono ?_; rintro e w1 ⟨rfl, rfl⟩
      go_wp2_with fail
      refine hK2.mono ?_; rintro e w2 ⟨rfl, rfl⟩
      go_wp2
      go_ret
      exact ⟨rfl, Kp.refl _⟩
  · rw [if_neg (fun hh => hk hh.1)]
    rw [show knB k = false from decide_eq_false hk] at hK1
    clear hk h
    go_enter Tryd.func15, Tryd.ntmps15
    go_wp2_with fail
    refine hK1.mono ?_; rintro e w1 ⟨rfl, rfl⟩
    go_wp2
    go_ret
    exact ⟨rfl, Kp.refl _⟩

/-! ### the document's -/
theorem dg1 (n all r d l T a : Nat) (h1 : n * all + r = T * a) (h2 : d * all + l = 10 * r) : (10 * n + d) * all + l = 10 * T * a := by
  rw [Nat.add_mul, Nat.mul_assoc, Nat.mul_assoc, ← h1]
  generalize n * all = x at *
  generalize d * all = y at *
  omega
theorem dg2 (n all r T : Nat) (h : n * all + r = T) (hr : r < all) : n = T / all := by
  rw [← h, Nat.mul_comm, Nat.mul_add_div (by omega), Nat.div_eq_of_lt hr, Nat.add_zero]
theorem dg3 (d all l r j : Nat) (h : d * all + l = j * r) (hr : r < all) (hl : l < all) : d ≤ j := by
  rcases Nat.lt_or_ge j d with h1 | h1
  · exfalso
    have h2 : (j + 1) * all ≤ d * all := Nat.mul_le_mul_right _ h1
    have h3 : j * r ≤ j * all := Nat.mul_le_mul_left _ (by omega)
    rw [Nat.add_mul] at h2
    omega
  · exact h1

set_option maxRecDepth 100000 in
set_option maxHeartbeats 4000000 in
theorem rpart_any (t : Nat) (s : TS) (N k o : Int) (w : World) (h : TlIn w t s) (hO : Ok s N) : Calls Tryd.prog 16 #[.pointer (some ⟨t, 0, none⟩), .int .i64 k, .int .i64 o] w fun e w' => e = .returned (.int .i64 (pI s k o : Nat)) ∧ Kp w w' := by
  by_cases hko : (0 ≤ k ∧ k < 9) ∧ 0 ≤ o ∧ o < 9
  · obtain ⟨hk, ho⟩ := hko
    have eP : pI s k o = ptI (s.c k.toNat).toNat (s.c o.toNat).toNat := by unfold pI; rw [if_pos ⟨hk, ho⟩]
    rw [eP]
    clear eP
    obtain ⟨k, rfl⟩ : ∃ n : Nat, k = n := ⟨k.toNat, by omega⟩
    obtain ⟨o, rfl⟩ : ∃ n : Nat, o = n := ⟨o.toNat, by omega⟩
    have hk9 : k < 9 := by omega
    have ho9 : o < 9 := by omega
    rw [show ((k : Nat) : Int).toNat = k by omega, show ((o : Nat) : Int).toNat = o by omega]
    have c1 := h.c k hk9
    have c2 := h.c o ho9
    have ha := hO.c k
    have hb := hO.c o
    obtain ⟨a, ea⟩ : ∃ a : Nat, s.c k = a := ⟨(s.c k).toNat, by omega⟩
    obtain ⟨b, eb⟩ : ∃ b : Nat, s.c o = b := ⟨(s.c o).toNat, by omega⟩
    rw [ea] at c1 ha ⊢
    rw [eb] at c2 hb ⊢
    rw [show ((a : Nat) : Int).toNat = a by omega, show ((b : Nat) : Int).toNat = b by omega]
    have ca : IntKind.u64.wrap (a : Int) = a := by rw [IntKind.wrap_u64]; omega
    have cb : IntKind.u64.wrap (b : Int) = b := by rw [IntKind.wrap_u64]; omega
    obtain ⟨all, hall⟩ : ∃ all, all = a + b := ⟨_, rfl⟩
    have cs : IntKind.u64.wrap ((a : Int) + b) = (all : Int) := by rw [IntKind.wrap_u64]; omega
    have hallb : all ≤ 9223372036854775808 := by omega
    have HP : Hid (ptI a b = 1000 * a / all) := by show ptI a b = _; rw [hall]; rfl
    have HA := hid hall
    obtain ⟨Z, hZ⟩ : ∃ Z, Z = ptI a b := ⟨_, rfl⟩
    rw [← hZ] at HP ⊢
    clear ea eb hk ho h hO hZ
    by_cases h0 : all = 0
    · have hc0 : (all : Int) = 0 := by omega
      have HZ : Hid (Z = 0) := by show Z = 0; rw [HP.out, h0]; simp
      clear hall h0
      go_enter Tryd.func16, Tryd.ntmps16
      go_wp2
      go_ret
      rw [HZ.out]
      exact ⟨rfl, Kp.refl _⟩
    · have hc0 : ¬ (all : Int) = 0 := by omega
      have hst : ∃ n0 r0 : Nat, n0 * all + r0 = a ∧ r0 < all ∧ n0 ≤ 1 ∧ (n0 = 1 ↔ all ≤ a) ∧ (n0 = 1 → r0 = a - all) ∧ (n0 = 0 → r0 = a) := by
        by_cases hg : all ≤ a
        · exact ⟨1, a - all, by omega, by omega, by omega, by simp [hg], fun _ => rfl, (fun h => by cases h)⟩
        · exact ⟨0, a, by omega, by omega, by omega, by simp [hg], (fun h => by cases h), fun _ => rfl⟩
      obtain ⟨n0, r0, hnr, hr0, hn0, hiff, e1, e0⟩ := hst
      clear hall
      go_enter Tryd.func16, Tryd.ntmps16
      go_upto_if 52 with fail
      go_cut [10, 11] (fun n r V => n = .int .i64 (n0 : Int) ∧ r = .int .u64 (r0 : Int) ∧ V = w)
      case first =>
        by_cases hg : all ≤ a
        · have h1 := hiff.2 hg
          have hr := e1 h1
          have hgi : (all : Int) ≤ (a : Int) := by omega
          have cd : IntKind.u64.wrap ((a : Int) - all) = (r0 : Int) := by rw [IntKind.wrap_u64]; omega
          clear hr hiff e1 e0 hnr hn0
          subst h1
          go_wp2
          go_meet
          exact ⟨rfl, rfl, rfl⟩
        · have h1 : n0 = 0 := by have : ¬ n0 = 1 := fun h => hg (hiff.1 h); omega
          have hr := e0 h1
          have hgi : ¬ (all : Int) ≤ (a : Int) := by omega
          clear hiff e1 e0 hnr hn0
          subst h1 hr
          go_wp2
          go_meet
          exact ⟨rfl, rfl, rfl⟩
      case rest =>
        obtain ⟨rfl, rfl, rfl⟩ := hcut
        rename World => w
        have H0 := hid hnr
        clear hnr hiff e1 e0
        go_wp2_with fail
        go_loopw [10, 11, 12] (fun nv rv i wr => ∃ n r c : Nat, c ≤ 3 ∧ nv = .int .i64 (n : Int) ∧ rv = .int .u64 (r : Int) ∧ i = .int .i64 (c : Int) ∧ r < all ∧ n ≤ 10 ^ c * 2 ∧ Hid (n * all + r = 10 ^ c * a) ∧ wr = w) (fun _ _ i _ => 3 - (intOf i).toNat)
        case atStart => exact ⟨n0, r0, 0, by omega, rfl, rfl, by go_num, hr0, by omega, by have := H0.out; show n0 * all + r0 = 10 ^ 0 * a; omega, rfl⟩
        case round =>
          clear H0 hr0 hn0
          obtain ⟨n, r, c, hc3, rfl, rfl, rfl, hr, hn, HI, rfl⟩ := hrel
          by_cases hlt : c < 3
          · obtain ⟨wo, hwo⟩ : ∃ wo, wo = wr := ⟨_, rfl⟩
            subst hwo
            go_wp2_with fail
            go_loopw [13, 14, 15] (fun dv lv j wr => ∃ d l i : Nat, i ≤ 10 ∧ dv = .int .i64 (d : Int) ∧ lv = .int .u64 (l : Int) ∧ j = .int .i64 (i : Int) ∧ l < all ∧ Hid (d * all + l = i * r) ∧ wr = wo) (fun _ _ j _ => 10 - (intOf j).toNat)
            case atStart => exact ⟨0, 0, 0, by omega, by go_num, by go_num, by go_num, by omega, by show 0 * all + 0 = 0 * r; omega, rfl⟩
            case round =>
              obtain ⟨d, l, i, hi, rfl, rfl, rfl, hl, HD, rfl⟩ := hrel
              have hdi := dg3 d all l r i HD.out hr hl
              by_cases hlt2 : i < 10
              · obtain ⟨g, hg⟩ : ∃ g, g = all - r := ⟨_, rfl⟩
                have cg : IntKind.u64.wrap ((all : Int) - r) = (g : Int) := by rw [IntKind.wrap_u64]; omega
                by_cases hge : g ≤ l
                · obtain ⟨l2, hl2⟩ : ∃ l2, l2 = l - g := ⟨_, rfl⟩
                  have cl : IntKind.u64.wrap ((l : Int) - g) = (l2 : Int) := by rw [IntKind.wrap_u64]; omega
                  have hgi : (g : Int) ≤ (l : Int) := by omega
                  have hd2 : IntKind.i64.wrap ((d : Int) + 1) = ((d + 1 : Nat) : Int) := by rw [IntKind.wrap_i64]; omega
                  have HD2 : Hid ((d + 1) * all + l2 = (i + 1) * r) := by
                    show (d + 1) * all + l2 = (i + 1) * r
                    have := HD.out
                    rw [Nat.add_mul, Nat.add_mul]
                    omega
                  have hl2b : l2 < all := by omega
                  clear hl2 hg HD
                  go_wp2
                  go_roundw
                  case rel => exact ⟨d + 1, l2, i + 1, by omega, by go_num, rfl, by go_num, hl2b, HD2, trivial⟩
                  case measure => simp [intOf]; omega
                · obtain ⟨l2, hl2⟩ : ∃ l2, l2 = l + r := ⟨_, rfl⟩
                  have cl : IntKind.u64.wrap ((l : Int) + r) = (l2 : Int) := by rw [IntKind.wrap_u64]; omega
                  have hgi : ¬ (g : Int) ≤ (l : Int) := by omega
                  have HD2 : Hid (d * all + l2 = (i + 1) * r) := by
                    show d * all + l2 = (i + 1) * r
                    have := HD.out
                    rw [Nat.add_mul]
                    omega
                  have hl2b : l2 < all := by omega
                  clear hl2 hg HD
                  go_wp2
                  go_roundw
                  case rel => exact ⟨d, l2, i + 1, by omega, rfl, rfl, by go_num, hl2b, HD2, trivial⟩
                  case measure => simp [intOf]; omega
              · have hi10 : i = 10 := by omega
                have HI2 : Hid ((10 * n + d) * all + l = 10 ^ (c + 1) * a) := by
                  show (10 * n + d) * all + l = 10 ^ (c + 1) * a
                  have h2 := HD.out
                  rw [hi10] at h2
                  rw [Nat.pow_succ, Nat.mul_comm (10 ^ c)]
                  exact dg1 n all r d l (10 ^ c) a HI.out h2
                have hpw : 10 ^ c ≤ 100 := by
                  rcases (show c = 0 ∨ c = 1 ∨ c = 2 by omega) with rfl | rfl | rfl <;> decide
                have hn2 : IntKind.i64.wrap (10 * (n : Int)) = ((10 * n : Nat) : Int) := by rw [IntKind.wrap_i64]; omega
                obtain ⟨n2, hn2e⟩ : ∃ n2, n2 = 10 * n + d := ⟨_, rfl⟩
                have hn3 : IntKind.i64.wrap (10 * (n : Int) + (d : Int)) = (n2 : Int) := by rw [IntKind.wrap_i64]; omega
                have hn4 : n2 ≤ 10 ^ (c + 1) * 2 := by
                  rcases Nat.lt_or_ge (10 ^ (c + 1) * 2) n2 with h | h
                  · exfalso
                    have h5 : 10 ^ (c + 1) = 10 ^ c * 10 := Nat.pow_succ ..
                    have h6 := HI2.out
                    rw [← hn2e] at h6
                    have h7 : a ≤ all := by have := HA.out; omega
                    have h8 : (10 ^ (c + 1) * 2 + 1) * all ≤ n2 * all := Nat.mul_le_mul_right _ h
                    have h9 : 10 ^ (c + 1) * a ≤ 10 ^ (c + 1) * all := Nat.mul_le_mul_left _ h7
                    rw [Nat.add_mul, Nat.mul_assoc, Nat.mul_comm 2 all, ← Nat.mul_assoc] at h8
                    generalize 10 ^ (c + 1) * all = x at *
                    omega
                  · exact h
                rw [← hn2e] at HI2
                have HI10 := hid hi10
                clear hi10 HD HI hn2e hpw
                go_wp2
                go_roundw
                case rel => exact ⟨n2, l, c + 1, by omega, rfl, rfl, by go_num, hl, hn4, HI2, trivial⟩
                case measure => simp [intOf]; omega
          · have hc : c = 3 := by omega
            have HF : Hid (n = Z) := by
              show n = Z
              have h1 := HI.out
              rw [hc] at h1
              rw [HP.out]
              exact dg2 n all r (1000 * a) (by rw [h1]) hr
            clear hc
            go_wp2
            go_ret
            rw [HF.out]
            exact ⟨rfl, Kp.refl _⟩
  · have eP : pI s k o = 0 := by unfold pI; rw [if_neg hko]
    rw [eP]
    clear eP h hO
    by_cases h1 : k < 0
    · go_enter Tryd.func16, Tryd.ntmps16
      go_wp2
      go_ret
      exact ⟨rfl, Kp.refl _⟩
    · by_cases h2 : 9 ≤ k
      · go_enter Tryd.func16, Tryd.ntmps16
        go_wp2
        go_ret
        exact ⟨rfl, Kp.refl _⟩
      · by_cases h3 : o < 0
        · have h1' : 0 ≤ k := by omega
          have h2' : k < 9 := by omega
          go_enter Tryd.func16, Tryd.ntmps16
          go_wp2
          go_ret
          exact ⟨rfl, Kp.refl _⟩
        · have h4 : 9 ≤ o := by omega
          have h1' : 0 ≤ k := by omega
          have h2' : k < 9 := by omega
          have h3' : 0 ≤ o := by omega
          clear hko
          go_enter Tryd.func16, Tryd.ntmps16
          go_wp2
          go_ret
          exact ⟨rfl, Kp.refl _⟩

set_option maxRecDepth 100000 in
set_option maxHeartbeats 4000000 in
theorem rname_any (k : Int) (w : World) : Calls Tryd.prog 18 #[.int .i64 k] w fun e w' => e = .returned (.string (nameI k)) ∧ Kp w w' := by
  unfold nameI
  by_cases h1 : 0 ≤ k
  · by_cases h2 : k < 9
    · rw [if_pos ⟨h1, h2⟩]
      have h : k = 0 ∨ k = 1 ∨ k = 2 ∨ k = 3 ∨ k = 4 ∨ k = 5 ∨ k = 6 ∨ k = 7 ∨ k = 8 := by omega
      rcases h with rfl | rfl | rfl | rfl | rfl | rfl | rfl | rfl | rfl
      all_goals
        go_enter Tryd.func18, Tryd.ntmps18
        go_wp2
        go_ret
        exact ⟨rfl, (Kp.refl w).alloc _⟩
    · rw [if_neg (by omega)]
      have h2' : 9 ≤ k := by omega
      clear h2
      go_enter Tryd.func18, Tryd.ntmps18
      go_wp2
      go_ret
      exact ⟨rfl, (Kp.refl w).alloc _⟩
  · rw [if_neg (by omega)]
    have h1' : k < 0 := by omega
    clear h1
    go_enter Tryd.func18, Tryd.ntmps18
    go_wp2
    go_ret
    exact ⟨rfl, (Kp.refl w).alloc _⟩

end Go.Proofs.YtlhiienmhglieaaDoor
