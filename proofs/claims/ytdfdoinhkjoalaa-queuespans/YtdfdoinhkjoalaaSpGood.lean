/-
  Contracts of spans' List.Good, Total, refuse, and of the document's Good, Has, Total. Conditions: that the list's cells hold the spans.
-/
import Derived.Test.YtdfdoinhkjoalaaSpMem
import Derived.Deep.QuietTactic
import Derived.BigQuiet
namespace Go.Proofs.Ytdfdoinhkjoalaa
open Go.RowKit Plain
set_option linter.unusedVariables false

theorem Kp.drewN {a b : World} (h : Kp a b) (n : Nat) : Kp a (b.drewN n) := ⟨h.os, h.tape, h.output, h.size, h.block⟩
theorem drop_at (l : List (Int × Int)) (k : Nat) (h : k < l.length) : l.drop k = l.getD k (0, 0) :: l.drop (k + 1) := by
  rw [List.drop_eq_getElem_cons h, List.getD_eq_getElem?_getD, List.getElem?_eq_getElem h]; rfl
set_option maxRecDepth 100000 in
set_option maxHeartbeats 1000000 in
theorem good_at (a : Option Addr) (b off cap : Nat) (l : List (Int × Int)) (w : World) (h : SpAt w a b off cap l) : Calls Try.prog 20 #[.slice a l.length cap] w fun e w' => e = .returned (.bool (gL l)) ∧ Kp w w' := by
  obtain ⟨n, hn⟩ : ∃ n, n = l.length := ⟨_, rfl⟩
  have hm : n ≤ 9223372036854775807 := by have := h.le; have := h.mx; unfold maxLen at *; omega
  have HN : Hid (n = l.length) := hn
  have HA : Hid (SpAt w a b off cap l) := h
  have ha := h.ha
  rw [← hn] at ha ⊢
  clear h hn
  have hG := good1_any
  unfold spV at hG
  obtain ⟨g, hg⟩ : ∃ g, g = gL l := ⟨_, rfl⟩
  rw [← hg]
  have HG : Hid (g = gB (-1) (l.drop 0)) := hg
  clear hg
  go_enter Try.func20, Try.ntmps20
  go_wp2
  go_loopw [8, 3] (fun i q wr => ∃ k : Nat, ∃ e : Int, k ≤ n ∧ i = .int .i64 k ∧ q = .int .i64 e ∧ Hid (g = gB e (l.drop k)) ∧ Kp w wr) (fun i _ _ => n - (intOf i).toNat)
  case atStart => exact ⟨0, -1, by omega, rfl, rfl, HG, Kp.refl w⟩
  case round =>
    clear HG
    obtain ⟨k, e, hk, rfl, rfl, HG, hK⟩ := hrel
    by_cases hlt : k < n
    · obtain rfl := ha (by omega)
      have c0 := hK.held (HA.out.c0 k (by rw [← HN.out]; exact hlt))
      have c1 := hK.held (HA.out.c1 k (by rw [← HN.out]; exact hlt))
      have hd := drop_at l k (by rw [← HN.out]; exact hlt)
      obtain ⟨p, hp⟩ : ∃ p, p = l.getD k (0, 0) := ⟨_, rfl⟩
      rw [← hp] at c0 c1 hd
      have HG2 : Hid (g = (gd p && (decide (e < p.1) && gB p.2 (l.drop (k + 1))))) := by rw [HG.out, hd]; rfl
      clear hd hp HG
      obtain ⟨x, y⟩ := p
      simp only at c0 c1
      have hG1 := hG (x, y)
      go_wp2_with fail
      refine (hG1 _).mono ?_; rintro e' w1 ⟨rfl, k1⟩
      have d0 : w1.cell? ⟨wr.heap.size, 0, none⟩ = some (.int .i64 x) := k1.held (by simp)
      have d1 : w1.cell? ⟨wr.heap.size, 1, none⟩ = some (.int .i64 y) := k1.held (by simp)
      have K1 : Kp w w1 := (hK.alloc _).trans k1
      clear hG hG1 k1 hK c0 c1
      cases hg : gd (x, y) with
      | false =>
        have HF : Hid (g = false) := by rw [HG2.out, hg]; rfl
        clear HG2 hg
        go_wp2
        go_ret
        exact ⟨by rw [HF.out]; rfl, K1⟩
      | true =>
        by_cases he : e < x
        · have HF : Hid (g = gB y (l.drop (k + 1))) := by rw [HG2.out, hg, decide_eq_true he]; rfl
          clear HG2 hg
          go_wp2
          go_roundw
          case rel => exact ⟨k + 1, y, by omega, by go_num, rfl, HF, K1⟩
          case measure => simp [intOf]; omega
        · have HF : Hid (g = false) := by rw [HG2.out, hg, decide_eq_false he]; rfl
          clear HG2 hg
          go_wp2
          go_ret
          exact ⟨by rw [HF.out]; rfl, K1⟩
    · obtain rfl : k = n := by omega
      have HF : Hid (g = true) := by rw [HG.out, HN.out, List.drop_length]; rfl
      clear HG hG
      go_wp2
      go_ret
      exact ⟨by rw [HF.out]; rfl, hK⟩
theorem good_any (v : Value) (l : List (Int × Int)) (w : World) (h : SpIn w v l) : Calls Try.prog 20 #[v] w fun e w' => e = .returned (.bool (gL l)) ∧ Kp w w' := by
  obtain ⟨a, b, off, cap, rfl, h⟩ := h
  exact good_at a b off cap l w h

def rfE (l : List (Int × Int)) (s : (Int × Int)) : Int := if gL l = true then (if gd s = true then 0 else 2) else 4
set_option maxRecDepth 100000 in
theorem refuse_any (v : Value) (l : List (Int × Int)) (s : (Int × Int)) (w : World) (h : SpIn w v l) : Calls Try.prog 45 #[v, spV s] w fun e w' => e = .returned (.int .i64 (rfE l s)) ∧ Kp w w' := by
  have hL : ∀ w', Kp w w' → Calls Try.prog 20 #[v] w' fun e w'' => e = .returned (.bool (gL l)) ∧ Kp w' w'' := fun w' k => good_any v l w' (h.kept k)
  have hG := good1_any s
  obtain ⟨x, y⟩ := s
  unfold spV at hG ⊢
  clear h
  cases e1 : gL l with
  | false =>
    rw [show rfE l (x, y) = 4 from if_neg (by simp [e1])]
    rw [e1] at hL
    clear e1 hG
    go_enter Try.func45, Try.ntmps45
    go_wp2_with fail
    refine (hL _ ((Kp.refl w).alloc _)).mono ?_; rintro e w1 ⟨rfl, k1⟩
    have K1 : Kp w w1 := ((Kp.refl w).alloc _).trans k1
    clear hL k1
    go_wp2
    go_ret
    exact ⟨rfl, K1⟩
  | true =>
    rw [e1] at hL
    cases e2 : gd (x, y) with
    | false =>
      rw [show rfE l (x, y) = 2 from (if_pos e1).trans (if_neg (by simp [e2]))]
      rw [e2] at hG
      clear e1 e2
      go_enter Try.func45, Try.ntmps45
      go_wp2_with fail
      refine (hL _ ((Kp.refl w).alloc _)).mono ?_; rintro e w1 ⟨rfl, k1⟩
      have K1 : Kp w w1 := ((Kp.refl w).alloc _).trans k1
      have c0 : w1.cell? ⟨w.heap.size, 0, none⟩ = some (.int .i64 x) := k1.held (by simp)
      have c1 : w1.cell? ⟨w.heap.size, 1, none⟩ = some (.int .i64 y) := k1.held (by simp)
      clear hL k1
      go_wp2_with fail
      refine (hG _).mono ?_; rintro e w2 ⟨rfl, k2⟩
      have K2 := K1.trans k2
      clear hG k2 c0 c1
      go_wp2
      go_ret
      exact ⟨rfl, K2⟩
    | true =>
      rw [show rfE l (x, y) = 0 from (if_pos e1).trans (if_pos e2)]
      rw [e2] at hG
      clear e1 e2
      go_enter Try.func45, Try.ntmps45
      go_wp2_with fail
      refine (hL _ ((Kp.refl w).alloc _)).mono ?_; rintro e w1 ⟨rfl, k1⟩
      have K1 : Kp w w1 := ((Kp.refl w).alloc _).trans k1
      have c0 : w1.cell? ⟨w.heap.size, 0, none⟩ = some (.int .i64 x) := k1.held (by simp)
      have c1 : w1.cell? ⟨w.heap.size, 1, none⟩ = some (.int .i64 y) := k1.held (by simp)
      clear hL k1
      go_wp2_with fail
      refine (hG _).mono ?_; rintro e w2 ⟨rfl, k2⟩
      have K2 := K1.trans k2
      clear hG k2 c0 c1
      go_wp2
      go_ret
      exact ⟨rfl, K2⟩
theorem take_at (l : List (Int × Int)) (k : Nat) (h : k < l.length) : l.take (k + 1) = l.take k ++ [l.getD k (0, 0)] := by
  rw [List.take_add_one, List.getElem?_eq_getElem h, List.getD_eq_getElem?_getD, List.getElem?_eq_getElem h]; rfl
theorem tot_take {l : List (Int × Int)} (h : G l) (k : Nat) : 0 ≤ tot (l.take k) ∧ tot (l.take k) ≤ 1099511627777 := by
  have := tot_le (l.take k) (-1) (h.nb.take k) 1099511627776 (by omega) (h.take k).hi
  omega
def totI (l : List (Int × Int)) : Int := if gL l = true then tot l else 0
set_option maxRecDepth 100000 in
set_option maxHeartbeats 1000000 in
theorem total_at (a : Option Addr) (b off cap : Nat) (l : List (Int × Int)) (w : World) (h : SpAt w a b off cap l) : Calls Try.prog 21 #[.slice a l.length cap] w fun e w' => e = .returned (.int .i64 (totI l)) ∧ Kp w w' := by
  have hL : Calls Try.prog 20 #[.slice a l.length cap] w fun e w'' => e = .returned (.bool (gL l)) ∧ Kp w w'' := good_at a b off cap l w h
  obtain ⟨n, hn⟩ : ∃ n, n = l.length := ⟨_, rfl⟩
  have hm : n ≤ 9223372036854775807 := by have := h.le; have := h.mx; unfold maxLen at *; omega
  have HN : Hid (n = l.length) := hn
  have HA : Hid (SpAt w a b off cap l) := h
  have ha := h.ha
  rw [← hn] at ha hL ⊢
  clear h hn
  cases e1 : gL l with
  | false =>
    rw [show totI l = 0 from if_neg (by simp [e1])]
    rw [e1] at hL
    clear e1
    go_enter Try.func21, Try.ntmps21
    go_wp2_with fail
    refine hL.mono ?_; rintro e w1 ⟨rfl, k1⟩
    clear hL
    go_wp2
    go_ret
    exact ⟨rfl, k1⟩
  | true =>
    rw [show totI l = tot l from if_pos e1]
    rw [e1] at hL
    have HG : Hid (G l) := (gL_iff l).1 e1
    clear e1
    have hG := len1_any
    unfold spV at hG
    obtain ⟨T, hT⟩ : ∃ T, T = tot l := ⟨_, rfl⟩
    rw [← hT]
    have HT : Hid (T = tot l) := hT
    clear hT
    go_enter Try.func21, Try.ntmps21
    go_wp2_with fail
    refine hL.mono ?_; rintro e w1 ⟨rfl, k1⟩
    clear hL
    go_wp2
    go_loopw [11, 3] (fun i q wr => ∃ k : Nat, ∃ e : Int, k ≤ n ∧ i = .int .i64 k ∧ q = .int .i64 e ∧ Hid (e = tot (l.take k)) ∧ Kp w wr) (fun i _ _ => n - (intOf i).toNat)
    case atStart => exact ⟨0, 0, by omega, rfl, rfl, rfl, k1⟩
    case round =>
      clear k1
      obtain ⟨k, e, hk, rfl, rfl, HE, hK⟩ := hrel
      by_cases hlt : k < n
      · obtain rfl := ha (by omega)
        have hlt2 : k < l.length := by rw [← HN.out]; exact hlt
        have c0 := hK.held (HA.out.c0 k hlt2)
        have c1 := hK.held (HA.out.c1 k hlt2)
        have hd := take_at l k hlt2
        have hg := HG.out.gd _ (getD_mem l k hlt2)
        have b1 := tot_take HG.out k
        have b2 := tot_take HG.out (k + 1)
        obtain ⟨p, hp⟩ : ∃ p, p = l.getD k (0, 0) := ⟨_, rfl⟩
        rw [← hp] at c0 c1 hd hg
        rw [hd, tot_app] at b2
        rw [← HE.out] at b1 b2
        have HE2 : Hid (e + (p.2 - p.1) = tot (l.take (k + 1))) := by rw [HE.out, hd, tot_app]; simp [tot, Hid]
        obtain ⟨x, y⟩ := p
        have hG1 := hG (x, y)
        rw [show len1 (x, y) = y - x from if_pos hg] at hG1
        simp only [tot] at c0 c1 b2
        simp only at HE2
        clear hd hp hg HE hlt2 hG
        go_wp2_with fail
        refine (hG1 _).mono ?_; rintro e' w2 ⟨rfl, k2⟩
        have K1 : Kp w w2 := (hK.alloc _).trans k2
        clear hG1 k2 hK c0 c1
        go_wp2
        go_roundw
        case rel => exact ⟨k + 1, e + (y - x), by omega, by go_num, by go_num, HE2, K1⟩
        case measure => simp [intOf]; omega
      · obtain rfl : k = n := by omega
        have HF : Hid (T = e) := by rw [HT.out, HE.out, HN.out, List.take_length]; rfl
        clear HE HT hG
        go_wp2
        go_ret
        exact ⟨by rw [HF.out]; rfl, hK⟩
theorem total_any (v : Value) (l : List (Int × Int)) (w : World) (h : SpIn w v l) : Calls Try.prog 21 #[v] w fun e w' => e = .returned (.int .i64 (totI l)) ∧ Kp w w' := by
  obtain ⟨a, b, off, cap, rfl, h⟩ := h
  exact total_at a b off cap l w h

end Go.Proofs.Ytdfdoinhkjoalaa
