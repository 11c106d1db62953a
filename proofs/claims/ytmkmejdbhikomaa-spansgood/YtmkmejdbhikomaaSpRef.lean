/-
  Contracts of the document's Good, Has and Total. Conditions: that the list's cells hold the spans.
-/
import Derived.Test.YtmkmejdbhikomaaSpGood
namespace Go.Proofs.Ytmkmejdbhikomaa
open Go.RowKit Plain
set_option linter.unusedVariables false

def prevT (l : List (Int × Int)) (k : Nat) : Int := if k = 0 then -1 else (l.getD (k - 1) (0, 0)).2

set_option maxRecDepth 100000 in
set_option maxHeartbeats 1000000 in
theorem rgood_at (a : Option Addr) (b off cap : Nat) (l : List (Int × Int)) (w : World) (h : SpAt w a b off cap l) : Calls Try.prog 12 #[.slice a l.length cap] w fun e w' => e = .returned (.bool (gL l)) ∧ Kp w w' := by
  obtain ⟨n, hn⟩ : ∃ n, n = l.length := ⟨_, rfl⟩
  have hm : n ≤ 9223372036854775807 := by have := h.le; have := h.mx; unfold maxLen at *; omega
  have HN : Hid (n = l.length) := hn
  have HA : Hid (SpAt w a b off cap l) := h
  have ha := h.ha
  rw [← hn] at ha ⊢
  clear h hn
  have hG := one_any
  unfold spV at hG
  obtain ⟨g, hg⟩ : ∃ g, g = gL l := ⟨_, rfl⟩
  rw [← hg]
  have HG : Hid (g = gB (-1) (l.drop 0)) := hg
  clear hg
  go_enter Try.func12, Try.ntmps12
  go_wp2
  go_loopw [3] (fun i wr => ∃ k : Nat, k ≤ n ∧ i = .int .i64 k ∧ Hid (g = gB (prevT l k) (l.drop k)) ∧ Kp w wr) (fun i _ => n - (intOf i).toNat)
  case atStart => exact ⟨0, by omega, rfl, HG, Kp.refl w⟩
  case round =>
    clear HG
    obtain ⟨k, hk, rfl, HG, hK⟩ := hrel
    by_cases hlt : k < n
    · obtain rfl := ha (by omega)
      have hlt2 : k < l.length := by rw [← HN.out]; exact hlt
      have c0 := hK.held (HA.out.c0 k hlt2)
      have c1 := hK.held (HA.out.c1 k hlt2)
      have hd := drop_at l k hlt2
      have HP : Hid (prevT l (k + 1) = (l.getD k (0, 0)).2) := rfl
      obtain ⟨p, hp⟩ : ∃ p, p = l.getD k (0, 0) := ⟨_, rfl⟩
      rw [← hp] at c0 c1 hd HP
      have HG2 : Hid (g = (gd p && (decide (prevT l k < p.1) && gB p.2 (l.drop (k + 1))))) := by rw [HG.out, hd]; rfl
      clear hd hp HG
      obtain ⟨x, y⟩ := p
      simp only at c0 c1
      have hG1 := hG (x, y)
      go_wp2_with fail
      refine (hG1 _).mono ?_; rintro e' w1 ⟨rfl, k1⟩
      have K1 : Kp w w1 := hK.trans k1
      have d0 := k1.held c0
      have d1 := k1.held c1
      clear hG hG1 k1 hK c0 c1
      cases hg : gd (x, y) with
      | false =>
        have HF : Hid (g = false) := by rw [HG2.out, hg]; rfl
        clear HG2 hg
        go_wp2
        go_ret
        exact ⟨by rw [HF.out]; rfl, K1⟩
      | true =>
        by_cases hk0 : 0 < k
        · have e0 := K1.held (HA.out.c1 (k - 1) (by omega))
          have HZ : Hid (prevT l k = (l.getD (k - 1) (0, 0)).2) := if_neg (by omega)
          obtain ⟨z, hz⟩ : ∃ z, z = (l.getD (k - 1) (0, 0)).2 := ⟨_, rfl⟩
          rw [← hz] at e0 HZ
          clear hz
          have i1 : ((k - 1 : Nat) : Int) = (k : Int) - 1 := by omega
          have i2 : ((k : Int) - 1).toNat = k - 1 := by omega
          have i3 : (0 : Int) < (k : Int) := by omega
          by_cases he : z < x
          · have HF : Hid (g = gB y (l.drop (k + 1))) := by rw [HG2.out, hg, HZ.out, decide_eq_true he]; rfl
            clear HG2 hg
            have hle : decide (x ≤ z) = false := decide_eq_false (by omega)
            go_wp2_with fail
            go_quiet (fail)
            go_wp2
            go_roundw
            case rel => exact ⟨k + 1, by omega, by go_num, by rw [HP.out]; exact HF, K1.drewN _⟩
            case measure => simp [intOf]; omega
          · have HF : Hid (g = false) := by rw [HG2.out, hg, HZ.out, decide_eq_false he]; rfl
            clear HG2 hg
            have hle : x ≤ z := by omega
            go_wp2_with fail
            go_quiet (fail)
            go_wp2
            go_ret
            exact ⟨by rw [HF.out]; rfl, K1.drewN _⟩
        · obtain rfl : k = 0 := by omega
          have g1 := ((gd_iff (x, y)).1 hg).1
          have HF : Hid (g = gB y (l.drop (0 + 1))) := by rw [HG2.out, hg, decide_eq_true (show prevT l 0 < x from by show (-1 : Int) < x; simp only at g1; omega)]; rfl
          clear HG2 hg
          have i3 : decide ((0 : Int) < 0) = false := rfl
          go_wp2_with fail
          go_quiet (fail)
          go_wp2
          go_roundw
          case rel => exact ⟨0 + 1, by omega, by go_num, by rw [HP.out]; exact HF, K1.drewN _⟩
          case measure => simp [intOf]; omega
    · obtain rfl : k = n := by omega
      have HF : Hid (g = true) := by rw [HG.out, HN.out, List.drop_length]; rfl
      clear HG hG
      go_wp2
      go_ret
      exact ⟨by rw [HF.out]; rfl, hK⟩

theorem rgood_any (v : Value) (l : List (Int × Int)) (w : World) (h : SpIn w v l) : Calls Try.prog 12 #[v] w fun e w' => e = .returned (.bool (gL l)) ∧ Kp w w' := by
  obtain ⟨a, b, off, cap, rfl, h⟩ := h
  exact rgood_at a b off cap l w h
theorem hs_drop (l : List (Int × Int)) (k : Nat) (h : k < l.length) (x : Int) : hs (l.drop k) x = (inS (l.getD k (0, 0)) x || hs (l.drop (k + 1)) x) := by rw [drop_at l k h, hs_cons]
set_option maxRecDepth 100000 in
set_option maxHeartbeats 1000000 in
theorem rhas_at (a : Option Addr) (b off cap : Nat) (l : List (Int × Int)) (at' : Int) (w : World) (h : SpAt w a b off cap l) : Calls Try.prog 13 #[.slice a l.length cap, .int .i64 at'] w fun e w' => e = .returned (.bool (hs l at')) ∧ Kp w w' := by
  obtain ⟨n, hn⟩ : ∃ n, n = l.length := ⟨_, rfl⟩
  have hm : n ≤ 9223372036854775807 := by have := h.le; have := h.mx; unfold maxLen at *; omega
  have HN : Hid (n = l.length) := hn
  have HA : Hid (SpAt w a b off cap l) := h
  have ha := h.ha
  rw [← hn] at ha ⊢
  clear h hn
  obtain ⟨g, hg⟩ : ∃ g, g = hs l at' := ⟨_, rfl⟩
  rw [← hg]
  have HG : Hid (g = hs (l.drop 0) at') := hg
  clear hg
  go_enter Try.func13, Try.ntmps13
  go_wp2
  go_loopw [5] (fun i wr => ∃ k : Nat, k ≤ n ∧ i = .int .i64 k ∧ Hid (g = hs (l.drop k) at') ∧ Kp w wr) (fun i _ => n - (intOf i).toNat)
  case atStart => exact ⟨0, by omega, rfl, HG, Kp.refl w⟩
  case round =>
    clear HG
    obtain ⟨k, hk, rfl, HG, hK⟩ := hrel
    by_cases hlt : k < n
    · obtain rfl := ha (by omega)
      have hlt2 : k < l.length := by rw [← HN.out]; exact hlt
      have c0 := hK.held (HA.out.c0 k hlt2)
      have c1 := hK.held (HA.out.c1 k hlt2)
      have HG2 : Hid (g = (inS (l.getD k (0, 0)) at' || hs (l.drop (k + 1)) at')) := by rw [HG.out, hs_drop l k hlt2]; rfl
      obtain ⟨p, hp⟩ : ∃ p, p = l.getD k (0, 0) := ⟨_, rfl⟩
      rw [← hp] at c0 c1 HG2
      clear hp HG
      obtain ⟨x, y⟩ := p
      simp only at c0 c1
      by_cases h1 : x ≤ at'
      · by_cases h2 : at' < y
        · have HF : Hid (g = true) := by rw [HG2.out, (inS_iff (x, y) at').2 ⟨h1, h2⟩]; rfl
          clear HG2
          go_wp2
          go_ret
          exact ⟨by rw [HF.out]; rfl, hK⟩
        · have HF : Hid (g = hs (l.drop (k + 1)) at') := by rw [HG2.out, show inS (x, y) at' = false from by rw [Bool.eq_false_iff, ne_eq, inS_iff]; exact fun h => h2 h.2]; rfl
          clear HG2
          go_wp2
          go_roundw
          case rel => exact ⟨k + 1, by omega, by go_num, HF, hK⟩
          case measure => simp [intOf]; omega
      · have HF : Hid (g = hs (l.drop (k + 1)) at') := by rw [HG2.out, show inS (x, y) at' = false from by rw [Bool.eq_false_iff, ne_eq, inS_iff]; exact fun h => h1 h.1]; rfl
        clear HG2
        go_wp2
        go_roundw
        case rel => exact ⟨k + 1, by omega, by go_num, HF, hK⟩
        case measure => simp [intOf]; omega
    · obtain rfl : k = n := by omega
      have HF : Hid (g = false) := by rw [HG.out, HN.out, List.drop_length]; rfl
      clear HG
      go_wp2
      go_ret
      exact ⟨by rw [HF.out]; rfl, hK⟩
theorem rhas_any (v : Value) (l : List (Int × Int)) (x : Int) (w : World) (h : SpIn w v l) : Calls Try.prog 13 #[v, .int .i64 x] w fun e w' => e = .returned (.bool (hs l x)) ∧ Kp w w' := by
  obtain ⟨a, b, off, cap, rfl, h⟩ := h
  exact rhas_at a b off cap l x w h
set_option maxRecDepth 100000 in
set_option maxHeartbeats 1000000 in
theorem rtotal_at (a : Option Addr) (b off cap : Nat) (l : List (Int × Int)) (w : World) (h : SpAt w a b off cap l) : Calls Try.prog 19 #[.slice a l.length cap] w fun e w' => e = .returned (.int .i64 (totI l)) ∧ Kp w w' := by
  have hL : Calls Try.prog 12 #[.slice a l.length cap] w fun e w'' => e = .returned (.bool (gL l)) ∧ Kp w w'' := rgood_at a b off cap l w h
  obtain ⟨n, hn⟩ : ∃ n, n = l.length := ⟨_, rfl⟩
  have hm : n ≤ 9223372036854775807 := by have := h.le; have := h.mx; unfold maxLen at *; omega
  have HN : Hid (n = l.length) := hn
  have HA : Hid (SpAt w a b off cap l) := h
  have ha := h.ha
  rw [← hn] at ha hL ⊢
  clear h hn
  cases e1 : gL l with
  | false =>
    rw [show totI l = 0 from if_neg (by simp [e1])]
    rw [e1] at hL
    clear e1
    go_enter Try.func19, Try.ntmps19
    go_wp2_with fail
    refine hL.mono ?_; rintro e w1 ⟨rfl, k1⟩
    clear hL
    go_wp2
    go_ret
    exact ⟨rfl, k1⟩
  | true =>
    rw [show totI l = tot l from if_pos e1]
    rw [e1] at hL
    have HG : Hid (G l) := (gL_iff l).1 e1
    clear e1
    obtain ⟨T, hT⟩ : ∃ T, T = tot l := ⟨_, rfl⟩
    rw [← hT]
    have HT : Hid (T = tot l) := hT
    clear hT
    go_enter Try.func19, Try.ntmps19
    go_wp2_with fail
    refine hL.mono ?_; rintro e w1 ⟨rfl, k1⟩
    clear hL
    go_wp2
    go_loopw [4, 5] (fun q i wr => ∃ k : Nat, ∃ e : Int, k ≤ n ∧ i = .int .i64 k ∧ q = .int .i64 e ∧ Hid (e = tot (l.take k)) ∧ Kp w wr) (fun _ i _ => n - (intOf i).toNat)
    case atStart => exact ⟨0, 0, by omega, rfl, rfl, rfl, k1⟩
    case round =>
      clear k1
      obtain ⟨k, e, hk, rfl, rfl, HE, hK⟩ := hrel
      by_cases hlt : k < n
      · obtain rfl := ha (by omega)
        have hlt2 : k < l.length := by rw [← HN.out]; exact hlt
        have c0 := hK.held (HA.out.c0 k hlt2)
        have c1 := hK.held (HA.out.c1 k hlt2)
        have hd := take_at l k hlt2
        have hg := HG.out.lo _ (getD_mem l k hlt2)
        have b1 := tot_take HG.out k
        have b2 := tot_take HG.out (k + 1)
        obtain ⟨p, hp⟩ : ∃ p, p = l.getD k (0, 0) := ⟨_, rfl⟩
        rw [← hp] at c0 c1 hd hg
        rw [hd, tot_app] at b2
        rw [← HE.out] at b1 b2
        have HE2 : Hid (e + p.2 - p.1 = tot (l.take (k + 1))) := by rw [HE.out, hd, tot_app]; simp only [tot, Hid]; omega
        obtain ⟨x, y⟩ := p
        simp only [tot, mA] at c0 c1 b2 hg
        simp only at HE2
        obtain ⟨g1, g2, g3⟩ := hg
        clear hd hp HE hlt2
        go_wp2_with fail
        try go_quiet (fail)
        go_wp2
        go_roundw
        case rel => exact ⟨k + 1, e + y - x, by omega, by go_num, by go_num, HE2, by first | exact hK | exact hK.drewN _⟩
        case measure => simp [intOf]; omega
      · obtain rfl : k = n := by omega
        have HF : Hid (T = e) := by rw [HT.out, HE.out, HN.out, List.take_length]; rfl
        clear HE HT
        go_wp2
        go_ret
        exact ⟨by rw [HF.out]; rfl, hK⟩
theorem rtotal_any (v : Value) (l : List (Int × Int)) (w : World) (h : SpIn w v l) : Calls Try.prog 19 #[v] w fun e w' => e = .returned (.int .i64 (totI l)) ∧ Kp w w' := by
  obtain ⟨a, b, off, cap, rfl, h⟩ := h
  exact rtotal_at a b off cap l w h

end Go.Proofs.Ytmkmejdbhikomaa
