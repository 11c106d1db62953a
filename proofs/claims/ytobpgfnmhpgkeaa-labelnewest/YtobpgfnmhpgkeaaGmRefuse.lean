/-
  Contracts of geom's columnOn and refuse. Conditions: that the numbers asked for lie in memory; that columnOn's are those of a good geometry.
-/
import Derived.Test.YtobpgfnmhpgkeaaGmGood
namespace Go.Proofs.Ytobpgfnmhpgkeaa
open Go.RowKit Plain
set_option linter.unusedVariables false

set_option maxRecDepth 100000 in
theorem colOn_any (n s t m : Int) (w : World) (h1 : 0 < n) (h2 : n ≤ 32) (h3 : 0 ≤ t) (h4 : 0 ≤ m) (h5 : m < n) : Calls Try.prog 45 #[gV n s, .int .i64 t, .int .i64 m] w fun e w' => e = .returned (.int .i64 (cM n t m)) ∧ Kp w w' := by
  have hS := fun w' => start_any n s t w' h1 h2 h3
  have hb := rem_bd t h1
  have e : 2 * n - sM n t + m = n - 1 + t % n + m := by unfold sM; omega
  have hs : sM n t ≤ 33 ∧ 2 ≤ sM n t ∧ sM n t ≤ n + 1 := by unfold sM; omega
  have hr : (2 * n - sM n t + m).tmod n = cM n t m := Int.tmod_eq_emod_of_nonneg (by omega)
  have hr2 : (2 * n - sM n t + m) % n = cM n t m := rfl
  obtain ⟨r, er⟩ : ∃ r, r = cM n t m := ⟨_, rfl⟩
  obtain ⟨a, ea⟩ : ∃ a, a = sM n t := ⟨_, rfl⟩
  rw [← er] at hr hr2 ⊢
  rw [← ea] at hS hs hr hr2
  obtain ⟨s1, s2, s3⟩ := hs
  have hn0 : (n == 0) = false := beq_eq_false_iff_ne.2 (by omega)
  clear er ea e hb
  unfold gV at hS ⊢
  have c0 : (w.alloc (.cells #[.int .i64 n, .int .i64 s] 26)).cell? ⟨w.heap.size, 0, none⟩ = some (.int .i64 n) := by simp
  have c1 : (w.alloc (.cells #[.int .i64 n, .int .i64 s] 26)).cell? ⟨w.heap.size, 1, none⟩ = some (.int .i64 s) := by simp
  obtain ⟨w0, hw0⟩ : ∃ w0, w0 = w.alloc (.cells #[.int .i64 n, .int .i64 s] 26) := ⟨_, rfl⟩
  have K0 : Kp w w0 := by rw [hw0]; exact (Kp.refl w).alloc _
  have HW : Hid (w0 = w.alloc (.cells #[.int .i64 n, .int .i64 s] 26)) := hw0
  rw [← hw0] at c0 c1
  have q0 := kpw_cell c0
  have q1 := kpw_cell c1
  clear hw0 c0 c1
  go_enter Try.func45, Try.ntmps45
  go_wp2_with fail
  rw [← HW.out]
  clear HW
  refine wp_region_kp (by kernel_rfl) (by kernel_rfl) ?_
  repeat (first
    | go_big_quiet_skip
    | (go_big_quiet_want; go_big_quiet_op; go_big_quiet_on)
    | (go_big_quiet_want; go_big_quiet_op; apply Exists.intro; refine ⟨fun p => ?_, ?_⟩; (focus
        first
        | (go_at_call 49; exact kp_call (hS _))); go_big_quiet_on))
  refine wpQuiet_nil ?_
  rintro w1 ⟨p, rfl⟩
  go_wp2
  go_ret
  exact ⟨rfl, K0.trans (kpw_kp w0 p)⟩
theorem inR_step (l : List (Int × Int)) (k : Nat) (h : k < l.length) (hk : inR (l.take k) = true) : inR (l.take (k + 1)) = decide (0 ≤ (l.getD k (0, 0)).1 ∧ (l.getD k (0, 0)).1 < (l.getD k (0, 0)).2) := by
  unfold inR at hk ⊢
  rw [List.take_add_one, List.getElem?_eq_getElem h, List.getD_eq_getElem?_getD, List.getElem?_eq_getElem h, List.all_append, hk]
  simp
theorem inR_not (l : List (Int × Int)) (k : Nat) (h : inR (l.take k) = false) : inR l = false := by
  rw [Bool.eq_false_iff, ne_eq] at h ⊢
  intro hh
  apply h
  unfold inR at hh ⊢
  rw [List.all_eq_true] at hh ⊢
  exact fun p hp => hh p (List.mem_of_mem_take hp)
set_option maxRecDepth 100000 in
set_option maxHeartbeats 1000000 in
theorem refuse_at (n s : Int) (a : Option Addr) (b off cap : Nat) (l : List (Int × Int)) (w : World) (h : SpAt w a b off cap l) : Calls Try.prog 44 #[gV n s, .slice a l.length cap] w fun e w' => e = .returned (.int .i64 (rfE n s l)) ∧ Kp w w' := by
  have hG := good_any n s
  cases e1 : gg n s with
  | false =>
    rw [show rfE n s l = 4 from if_neg (by simp [e1])]
    rw [e1] at hG
    clear e1
    unfold gV at hG ⊢
    go_enter Try.func44, Try.ntmps44
    go_wp2_with fail
    refine (hG _).mono ?_; rintro e w1 ⟨rfl, k1⟩
    have K1 : Kp w w1 := ((Kp.refl w).alloc _).trans k1
    clear hG k1
    go_wp2
    go_ret
    exact ⟨rfl, K1⟩
  | true =>
    rw [show rfE n s l = (if inR l = true then 0 else 3) from if_pos e1]
    rw [e1] at hG
    clear e1
    unfold gV at hG ⊢
    obtain ⟨N, hN⟩ : ∃ N, N = l.length := ⟨_, rfl⟩
    have hm : N ≤ 9223372036854775807 := by have := h.le; have := h.mx; unfold maxLen at *; omega
    have HN : Hid (N = l.length) := hN
    have HA : Hid (SpAt w a b off cap l) := h
    have ha := h.ha
    rw [← hN] at ha ⊢
    clear h hN
    obtain ⟨R, hR⟩ : ∃ R : Int, R = (if inR l = true then 0 else 3) := ⟨_, rfl⟩
    rw [← hR]
    have HR : Hid (R = (if inR l = true then 0 else 3)) := hR
    clear hR
    go_enter Try.func44, Try.ntmps44
    go_wp2_with fail
    refine (hG _).mono ?_; rintro e w1 ⟨rfl, k1⟩
    have K1 : Kp w w1 := ((Kp.refl w).alloc _).trans k1
    clear hG k1
    go_wp2
    go_loopw [12] (fun i wr => ∃ k : Nat, k ≤ N ∧ i = .int .i64 k ∧ Hid (inR (l.take k) = true) ∧ Kp w wr) (fun i _ => N - (intOf i).toNat)
    case atStart => exact ⟨0, by omega, rfl, by show inR [] = true; rfl, K1⟩
    case round =>
      clear K1
      obtain ⟨k, hk, rfl, HG, hK⟩ := hrel
      by_cases hlt : k < N
      · obtain rfl := ha (by omega)
        have hlt2 : k < l.length := by rw [← HN.out]; exact hlt
        have c0 := hK.held (HA.out.c0 k hlt2)
        have c1 := hK.held (HA.out.c1 k hlt2)
        have HS : Hid (inR (l.take (k + 1)) = decide (0 ≤ (l.getD k (0, 0)).1 ∧ (l.getD k (0, 0)).1 < (l.getD k (0, 0)).2)) := inR_step l k hlt2 HG.out
        obtain ⟨p, hp⟩ : ∃ p, p = l.getD k (0, 0) := ⟨_, rfl⟩
        rw [← hp] at c0 c1 HS
        clear hp HG hlt2
        obtain ⟨x, y⟩ := p
        simp only at c0 c1
        by_cases h1 : 0 ≤ x
        · by_cases h2 : x < y
          · have HS2 : Hid (inR (l.take (k + 1)) = true) := by rw [HS.out]; exact decide_eq_true ⟨h1, h2⟩
            clear HS
            go_wp2
            go_roundw
            case rel => exact ⟨k + 1, by omega, by go_num, HS2, hK.alloc _⟩
            case measure => simp [intOf]; omega
          · have HF : Hid (R = 3) := by
              have hf : inR l = false := inR_not l (k + 1) (by rw [HS.out]; exact decide_eq_false (fun h => h2 h.2))
              rw [HR.out, hf]; rfl
            clear HS HR
            go_wp2
            go_ret
            exact ⟨by rw [HF.out]; rfl, hK.alloc _⟩
        · have HF : Hid (R = 3) := by
            have hf : inR l = false := inR_not l (k + 1) (by rw [HS.out]; exact decide_eq_false (fun h => h1 h.1))
            rw [HR.out, hf]; rfl
          clear HS HR
          go_wp2
          go_ret
          exact ⟨by rw [HF.out]; rfl, hK.alloc _⟩
      · obtain rfl : k = N := by omega
        have HF : Hid (R = 0) := by
          have hf : inR l = true := by have := HG.out; rwa [HN.out, List.take_length] at this
          rw [HR.out, hf]; rfl
        clear HG HR
        go_wp2
        go_ret
        exact ⟨by rw [HF.out]; rfl, hK⟩

end Go.Proofs.Ytobpgfnmhpgkeaa
