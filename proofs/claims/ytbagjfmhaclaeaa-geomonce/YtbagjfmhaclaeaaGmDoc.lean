/-
  Contracts of the document's Find and Block, for every geometry and every numbers. No condition.
-/
import Derived.Test.YtbagjfmhaclaeaaGmRow
import Derived.Deep.RegionWith
import Derived.Deep.RegionHeld3
import Derived.Deep.DeepCutAuto
namespace Go.Proofs.Ytbagjfmhaclaeaa
open Go.RowKit Plain
set_option linter.unusedVariables false

theorem fnd_at {n s t c k : Int} (hg : gg n s = true) (hk : k = n - 2) (h1 : 0 ≤ t) (h2 : t < s) (h3 : 0 ≤ c) (h4 : c < k) : fnd n s (t * k + c) = (t, c, 0) := by
  obtain ⟨g1, g2, g3, g4⟩ := (gg_iff n s).1 hg
  have hd := div_of (t := t) h3 h4
  have hm := mul_bd (a := t) (b := k) (A := s - 1) (B := k) h1 (by omega) (by omega) (by omega)
  have e : (s - 1) * k = k * s - k := by rw [Int.sub_mul, Int.mul_comm]; omega
  rw [show fnd n s (t * k + c) = _ from (if_pos hg).trans (if_pos ⟨by omega, by rw [← hk]; omega⟩), ← hk, hd.1, hd.2]
theorem fnd_3 {n s b : Int} (hg : gg n s = true) (h : ¬ (0 ≤ b ∧ b < (n - 2) * s)) : fnd n s b = (0, 0, 3) := (if_pos hg).trans (if_neg h)
theorem fnd_4 {n s b : Int} (hg : gg n s = false) : fnd n s b = (0, 0, 4) := if_neg (by simp [hg])
set_option maxRecDepth 100000 in
set_option maxHeartbeats 2000000 in
theorem rfind_any (n s b : Int) (w : World) : Calls Try.prog 18 #[gV n s, .int .i64 b] w fun e w' => e = .returned (fT (fnd n s b)) ∧ Kp w w' := by
  obtain ⟨X, eX⟩ : ∃ X, X = fnd n s b := ⟨_, rfl⟩
  rw [← eX]
  have HX : Hid (X = fnd n s b) := eX
  clear eX
  have hG := rgood_any n s
  unfold gV at hG ⊢
  go_enter Try.func18, Try.ntmps18
  go_wp2_with fail
  refine (hG _).mono ?_; rintro e w1 ⟨rfl, k1⟩
  have c0 : w1.cell? ⟨w.heap.size, 0, none⟩ = some (.int .i64 n) := k1.held (by simp)
  have c1 : w1.cell? ⟨w.heap.size, 1, none⟩ = some (.int .i64 s) := k1.held (by simp)
  have KH : Hid (Kp w w1) := ((Kp.refl w).alloc _).trans k1
  clear k1
  clear hG
  cases e1 : gg n s with
  | false =>
    have HF : Hid (X = (0, 0, 4)) := HX.out.trans (fnd_4 e1)
    clear e1 HX
    go_wp2
    go_ret3
    exact ⟨by rw [HF.out]; rfl, KH.out⟩
  | true =>
    have E1 : Hid (gg n s = true) := e1
    obtain ⟨g1, g2, g3, g4⟩ := (gg_iff n s).1 e1
    obtain ⟨S, rfl⟩ : ∃ S : Nat, s = S := ⟨s.toNat, by omega⟩
    obtain ⟨N, rfl⟩ : ∃ N : Nat, n = N := ⟨n.toNat, by omega⟩
    obtain ⟨K, rfl⟩ : ∃ K : Nat, N = K + 2 := ⟨N - 2, by omega⟩
    have i0 : ((K + 2 : Nat) : Int) - 2 = (K : Int) := by omega
    have hK : 2 ≤ K := by omega
    have hK2 : K ≤ 30 := by omega
    have hS : S ≤ 64 := by omega
    have C0 : Hid (∀ w', Kp w1 w' → w'.cell? ⟨w.heap.size, 0, none⟩ = some (.int .i64 ((K + 2 : Nat) : Int)) ∧ w'.cell? ⟨w.heap.size, 1, none⟩ = some (.int .i64 (S : Int))) := fun w' k => ⟨k.held c0, k.held c1⟩
    clear e1 c0 c1
    go_wp2
    go_loopw [9, 8] (fun i q wr => ∃ (T : Nat) (M : Int), T ≤ S ∧ i = .int .i64 T ∧ q = .int .i64 M ∧ Hid (M = (T : Int) * (K : Int)) ∧ Hid (¬ (0 ≤ b ∧ b < M)) ∧ 0 ≤ M ∧ M ≤ 1960 ∧ Kp w1 wr) (fun i _ _ => S - (intOf i).toNat)
    case atStart => exact ⟨0, 0, by omega, rfl, rfl, by show (0 : Int) = ((0 : Nat) : Int) * (K : Int); simp, by show ¬ (0 ≤ b ∧ b < 0); omega, by omega, by omega, Kp.refl w1⟩
    case round =>
      obtain ⟨T, M, hT, rfl, rfl, HM, HN, hm0, hm1, k2⟩ := hrel
      obtain ⟨c0, c1⟩ := C0.out _ k2
      by_cases hlt : T < S
      · obtain ⟨w2, hw2⟩ : ∃ w2, w2 = wr := ⟨_, rfl⟩
        rw [← hw2] at k2 c0 c1 ⊢
        have KO : Hid (Kp w1 w2) := k2
        clear hw2 k2
        have hM2 : (T : Int) * (K : Int) ≤ 1920 := (mul_64 (a := (T : Int)) (b := (K : Int)) (by omega) (by omega) (by omega) (by omega)).2
        have hM3 : M ≤ 1920 := by rw [HM.out]; exact hM2
        have HAT : Hid (∀ C : Nat, C < K → fnd ((K + 2 : Nat) : Int) (S : Int) ((T : Int) * (K : Int) + (C : Int)) = ((T : Int), (C : Int), 0)) := fun C hC => fnd_at E1.out (by omega) (by omega) (by omega) (by omega) (by omega)
        clear hM2
        go_wp2
        clear c0 c1
        go_loopw [10, 8] (fun i q wr => ∃ (C : Nat) (L : Int), C ≤ K ∧ i = .int .i64 C ∧ q = .int .i64 L ∧ Hid (L = M + (C : Int)) ∧ Hid (¬ (0 ≤ b ∧ b < L)) ∧ 0 ≤ L ∧ L ≤ 1950 ∧ Kp w1 wr) (fun i _ _ => K - (intOf i).toNat)
        case atStart => exact ⟨0, M, by omega, rfl, rfl, by show M = M + ((0 : Nat) : Int); simp, HN, hm0, by omega, KO.out⟩
        case round =>
          clear HN
          obtain ⟨C, L, hC, rfl, rfl, HL, HN, hl0, hl1, k3⟩ := hrel
          obtain ⟨c0, c1⟩ := C0.out _ k3
          by_cases hlt2 : C < K
          · have hLb : L < 1950 := by have := HL.out; omega
            by_cases he : L = b
            · have HF : Hid (X = ((T : Int), (C : Int), 0)) := by
                rw [HX.out, ← he, HL.out, HM.out]; exact HAT.out C hlt2
              have he2 : (L == b) = true := beq_iff_eq.2 he
              clear HX HN HL HAT HM he
              go_wp2
              go_ret3
              exact ⟨by rw [HF.out]; rfl, KH.out.trans k3⟩
            · have HN2 : Hid (¬ (0 ≤ b ∧ b < L + 1)) := by have := HN.out; show ¬ (0 ≤ b ∧ b < L + 1); omega
              have HL2 : Hid (L + 1 = M + ((C + 1 : Nat) : Int)) := by have := HL.out; show L + 1 = M + ((C + 1 : Nat) : Int); omega
              have he2 : (L == b) = false := beq_eq_false_iff_ne.2 he
              clear HN HL he
              go_wp2
              go_roundw
              case rel => exact ⟨C + 1, L + 1, by omega, by go_num, by go_num, HL2, HN2, by omega, by omega, k3⟩
              case measure => simp [intOf]; omega
          · obtain rfl : C = K := by omega
            have HM2 : Hid (L = ((T + 1 : Nat) : Int) * (C : Int)) := by
              show L = ((T + 1 : Nat) : Int) * (C : Int)
              rw [HL.out, HM.out, Int.natCast_add, Int.add_mul]; simp
            clear HL HM
            go_wp2
            go_roundw
            case rel => exact ⟨T + 1, L, by omega, by go_num, rfl, HM2, HN, by omega, by omega, k3⟩
            case measure => simp [intOf]; omega
      · obtain rfl : T = S := by omega
        have HF : Hid (X = (0, 0, 3)) := HX.out.trans (fnd_3 E1.out (by rw [i0, Int.mul_comm, ← HM.out]; exact HN.out))
        clear HX HM HN
        go_wp2
        go_ret3
        exact ⟨by rw [HF.out]; rfl, KH.out.trans k2⟩
theorem blk_3 {n s t c : Int} (hg : gg n s = true) (h : ¬ ((0 ≤ t ∧ t < s) ∧ 0 ≤ c ∧ c < n - 2)) : blk n s t c = (0, 3) := (if_pos hg).trans (if_neg h)
theorem blk_4 {n s t c : Int} (hg : gg n s = false) : blk n s t c = (0, 4) := if_neg (by simp [hg])
set_option maxRecDepth 100000 in
set_option maxHeartbeats 2000000 in
theorem rblock_any (n s t c : Int) (w : World) : Calls Try.prog 20 #[gV n s, .int .i64 t, .int .i64 c] w fun e w' => e = .returned (pT (blk n s t c)) ∧ Kp w w' := by
  obtain ⟨X, eX⟩ : ∃ X, X = blk n s t c := ⟨_, rfl⟩
  rw [← eX]
  have HX : Hid (X = blk n s t c) := eX
  clear eX
  have hG := rgood_any n s
  unfold gV at hG ⊢
  go_enter Try.func20, Try.ntmps20
  go_wp2_with fail
  refine (hG _).mono ?_; rintro e w1 ⟨rfl, k1⟩
  have c0 : w1.cell? ⟨w.heap.size, 0, none⟩ = some (.int .i64 n) := k1.held (by simp)
  have c1 : w1.cell? ⟨w.heap.size, 1, none⟩ = some (.int .i64 s) := k1.held (by simp)
  have KH : Hid (Kp w w1) := ((Kp.refl w).alloc _).trans k1
  clear k1
  clear hG
  cases e1 : gg n s with
  | false =>
    have HF : Hid (X = (0, 4)) := HX.out.trans (blk_4 e1)
    clear e1 HX
    go_wp2
    go_ret2
    exact ⟨by rw [HF.out]; rfl, KH.out⟩
  | true =>
    have E1 : Hid (gg n s = true) := e1
    obtain ⟨g1, g2, g3, g4⟩ := (gg_iff n s).1 e1
    clear e1
    by_cases h1 : 0 ≤ t
    · by_cases h2 : t < s
      · by_cases h3 : 0 ≤ c
        · by_cases h4 : c < n - 2
          · have HF : Hid (X = (t * (n - 2) + c, 0)) := HX.out.trans ((if_pos E1.out).trans (if_pos ⟨⟨h1, h2⟩, h3, h4⟩))
            obtain ⟨k1, k2⟩ := mul_64 (a := t) (b := n - 2) (by omega) (by omega) (by omega) (by omega)
            clear HX E1
            go_wp2
            go_ret2
            exact ⟨by rw [HF.out]; rfl, KH.out⟩
          · have HF : Hid (X = (0, 3)) := HX.out.trans (blk_3 E1.out (by omega))
            clear HX E1
            go_wp2
            go_ret2
            exact ⟨by rw [HF.out]; rfl, KH.out⟩
        · have HF : Hid (X = (0, 3)) := HX.out.trans (blk_3 E1.out (by omega))
          clear HX E1
          go_wp2
          go_ret2
          exact ⟨by rw [HF.out]; rfl, KH.out⟩
      · have HF : Hid (X = (0, 3)) := HX.out.trans (blk_3 E1.out (by omega))
        clear HX E1
        go_wp2
        go_ret2
        exact ⟨by rw [HF.out]; rfl, KH.out⟩
    · have HF : Hid (X = (0, 3)) := HX.out.trans (blk_3 E1.out (by omega))
      clear HX E1
      go_wp2
      go_ret2
      exact ⟨by rw [HF.out]; rfl, KH.out⟩

end Go.Proofs.Ytbagjfmhaclaeaa
