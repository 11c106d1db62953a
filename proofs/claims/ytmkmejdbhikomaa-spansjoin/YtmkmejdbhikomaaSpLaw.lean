/-
  Contracts of the document's Change, and of the laws' own same and lists. Conditions: that the lists' cells hold the spans.
-/
import Derived.Test.YtmkmejdbhikomaaSpBoth2
import Derived.Test.YtmkmejdbhikomaaSpMeet
namespace Go.Proofs.Ytmkmejdbhikomaa
open Go.RowKit Plain
set_option linter.unusedVariables false

/-! ### Change -/
set_option maxRecDepth 100000 in
theorem change_any (v : Value) (l : List (Int × Int)) (s : (Int × Int)) (kd : Int) (hkd : kd = 0 ∨ kd = 1 ∨ kd = 2 ∨ kd = 3) (w : World) (h : SpIn w v l) (hlen : l.length ≤ 1000) :
    Calls Try.prog 24 #[v, spV s, .int .i64 kd] w fun e w' => ∃ u R, e = .returned (.tuple #[u, .int .i64 (rfE l s)]) ∧ SpIn w' u R ∧ Kp w w' ∧ (rfE l s = 0 → G R ∧ ∀ x, hs R x = kF kd (hs l x) (inS s x)) ∧ (rfE l s ≠ 0 → R = []) := by
  have hL : ∀ w', Kp w w' → Calls Try.prog 12 #[v] w' fun e w'' => e = .returned (.bool (gL l)) ∧ Kp w' w'' := fun w' k => rgood_any v l w' (h.kept k)
  have hO := one_any s
  obtain ⟨x, y⟩ := s
  unfold spV at hO ⊢
  cases e1 : gL l with
  | false =>
    have HE : Hid (rfE l (x, y) = 4) := if_neg (by simp [e1])
    rw [e1] at hL
    clear e1 hO h
    go_enter Try.func24, Try.ntmps24
    go_wp2_with fail
    refine (hL _ ((Kp.refl w).alloc _)).mono ?_; rintro e w1 ⟨rfl, k1⟩
    have K1 : Kp w w1 := ((Kp.refl w).alloc _).trans k1
    clear hL k1
    go_wp2
    go_ret2
    exact ⟨_, [], by rw [HE.out]; rfl, SpIn.nil _, K1, fun h => absurd (HE.out.symm.trans h) (by decide), fun _ => rfl⟩
  | true =>
    rw [e1] at hL
    cases e2 : gd (x, y) with
    | false =>
      have HE : Hid (rfE l (x, y) = 2) := (if_pos e1).trans (if_neg (by simp [e2]))
      rw [e2] at hO
      clear e1 e2 h
      go_enter Try.func24, Try.ntmps24
      go_wp2_with fail
      refine (hL _ ((Kp.refl w).alloc _)).mono ?_; rintro e w1 ⟨rfl, k1⟩
      have K1 : Kp w w1 := ((Kp.refl w).alloc _).trans k1
      have c0 : w1.cell? ⟨w.heap.size, 0, none⟩ = some (.int .i64 x) := k1.held (by simp)
      have c1 : w1.cell? ⟨w.heap.size, 1, none⟩ = some (.int .i64 y) := k1.held (by simp)
      clear hL k1
      go_wp2_with fail
      refine (hO _).mono ?_; rintro e w2 ⟨rfl, k2⟩
      have K2 := K1.trans k2
      clear hO k2 c0 c1
      go_wp2
      go_ret2
      exact ⟨_, [], by rw [HE.out]; rfl, SpIn.nil _, K2, fun h => absurd (HE.out.symm.trans h) (by decide), fun _ => rfl⟩
    | true =>
      have HE : Hid (rfE l (x, y) = 0) := (if_pos e1).trans (if_pos e2)
      rw [e2] at hO
      have gl := (gL_iff l).1 e1
      obtain ⟨g1, g2, g3⟩ := (gd_iff _).1 e2
      have gm : G [(x, y)] := ⟨⟨by show -1 < x; simp only at g1; omega, g2, trivial⟩, fun p hp => by rw [List.mem_singleton.1 hp]; exact g3⟩
      have HBt : Hid (∀ w' t, Kp w w' → ∀ k, k = w'.heap.size → Calls Try.prog 27 #[v, .slice (some ⟨k, 0, none⟩) 1 1, .int .i64 kd] (w'.alloc (.cells #[.int .i64 x, .int .i64 y] t)) fun e w'' => ∃ u R, e = .returned u ∧ SpIn w'' u R ∧ G R ∧ (∀ z, hs R z = kF kd (hs l z) (hs [(x, y)] z)) ∧ Kp (w'.alloc (.cells #[.int .i64 x, .int .i64 y] t)) w'') := fun w' t k q hq =>
        both_any v _ l [(x, y)] kd hkd _ (h.kept (k.alloc _)) (SpIn.lit2 w' (x, y) t q hq) hlen (by simp) gl gm
      clear e1 e2 h gl gm g1 g2 g3
      go_enter Try.func24, Try.ntmps24
      go_wp2_with fail
      refine (hL _ ((Kp.refl w).alloc _)).mono ?_; rintro e w1 ⟨rfl, k1⟩
      have K1 : Kp w w1 := ((Kp.refl w).alloc _).trans k1
      have c0 : w1.cell? ⟨w.heap.size, 0, none⟩ = some (.int .i64 x) := k1.held (by simp)
      have c1 : w1.cell? ⟨w.heap.size, 1, none⟩ = some (.int .i64 y) := k1.held (by simp)
      clear hL k1
      go_wp2_with fail
      refine (hO _).mono ?_; rintro e w2 ⟨rfl, k2⟩
      have K2 := K1.trans k2
      have d0 := k2.held c0
      have d1 := k2.held c1
      clear hO k2 c0 c1
      go_wp2_with fail
      refine Calls.mono (HBt.out w2 _ K2 _ (by rfl)) ?_; rintro e w3 ⟨u, R, rfl, hu, hG, hx, k3⟩
      have HR : Hid (SpIn w3 u R ∧ G R ∧ (∀ z, hs R z = kF kd (hs l z) (inS (x, y) z)) ∧ Kp w w3) := ⟨hu, hG, fun z => by rw [hx z, hs_single], (K2.alloc _).trans k3⟩
      clear HBt hu hG hx k3 K2 K1 d0 d1
      go_wp2
      go_ret2
      exact ⟨_, R, by rw [HE.out]; rfl, HR.out.1, HR.out.2.2.2, fun _ => ⟨HR.out.2.1, HR.out.2.2.1⟩, fun h => absurd HE.out h⟩

/-! ### same -/
theorem take_eq_step {l m : List (Int × Int)} {k : Nat} (h : l.take k = m.take k) (h1 : k < l.length) (h2 : k < m.length) : (l.getD k (0, 0) = m.getD k (0, 0) ↔ l.take (k + 1) = m.take (k + 1)) := by
  rw [take_at l k h1, take_at m k h2, h]
  constructor
  · intro e; rw [e]
  · intro e
    have := List.append_cancel_left e
    simpa using this
set_option maxRecDepth 100000 in
set_option maxHeartbeats 1000000 in
theorem same_any (v1 v2 : Value) (l m : List (Int × Int)) (w : World) (h1 : SpIn w v1 l) (h2 : SpIn w v2 m) : Calls Try.prog 25 #[v1, v2] w fun e w' => e = .returned (.bool (decide (l = m))) ∧ Kp w w' := by
  obtain ⟨a1, b1, o1, p1, rfl, h1⟩ := h1
  obtain ⟨a2, b2, o2, p2, rfl, h2⟩ := h2
  obtain ⟨D, hD⟩ : ∃ D, D = decide (l = m) := ⟨_, rfl⟩
  rw [← hD]
  have HD : Hid (D = decide (l = m)) := hD
  have hm1 := h1.mx
  have hc1 := h1.le
  have hm2 := h2.mx
  have hc2 := h2.le
  unfold maxLen at hm1 hm2
  clear hD
  by_cases hne : l.length = m.length
  · have ha1 := h1.ha
    have ha2 := h2.ha
    have H1 : Hid (SpAt w a1 b1 o1 p1 l) := h1
    have H2 : Hid (SpAt w a2 b2 o2 p2 m) := h2
    rw [← hne] at ha2 hc2 ⊢
    obtain ⟨n, hn⟩ : ∃ n, n = l.length := ⟨_, rfl⟩
    have E1 : Hid (n = l.length) := hn
    have E2 : Hid (n = m.length) := hn.trans hne
    rw [← hn] at ha1 ha2 hc1 hc2 ⊢
    clear h1 h2 hn hne
    go_enter Try.func25, Try.ntmps25
    go_wp2
    go_loopw [13] (fun i wr => ∃ k : Nat, k ≤ n ∧ i = .int .i64 k ∧ Hid (l.take k = m.take k) ∧ Kp w wr) (fun i _ => n - (intOf i).toNat)
    case atStart => exact ⟨0, by omega, rfl, rfl, Kp.refl w⟩
    case round =>
      obtain ⟨k, hk, rfl, HT, hK⟩ := hrel
      by_cases hlt : k < n
      · obtain rfl := ha1 (by omega)
        obtain rfl := ha2 (by omega)
        have q1 : k < l.length := by rw [← E1.out]; exact hlt
        have q2 : k < m.length := by rw [← E2.out]; exact hlt
        have c0 := hK.held (H1.out.c0 k q1)
        have c1 := hK.held (H1.out.c1 k q1)
        have d0 := hK.held (H2.out.c0 k q2)
        have d1 := hK.held (H2.out.c1 k q2)
        have HS : Hid (l.getD k (0, 0) = m.getD k (0, 0) ↔ l.take (k + 1) = m.take (k + 1)) := take_eq_step HT.out q1 q2
        have i4 : (k : Int) < (n : Int) := by omega
        obtain ⟨p, hp⟩ : ∃ p, p = l.getD k (0, 0) := ⟨_, rfl⟩
        obtain ⟨q, hq⟩ : ∃ q, q = m.getD k (0, 0) := ⟨_, rfl⟩
        rw [← hp] at c0 c1 HS
        rw [← hq] at d0 d1 HS
        clear hp hq q1 q2 HT
        by_cases hpq : p = q
        · subst hpq
          have HT2 : Hid (l.take (k + 1) = m.take (k + 1)) := HS.out.1 rfl
          clear HS
          obtain ⟨x, y⟩ := p
          simp only at c0 c1 d0 d1
          go_wp2_with fail
          go_quiet (fail)
          go_wp2
          go_roundw
          case rel => exact ⟨k + 1, by omega, by go_num, HT2, hK.drewN _⟩
          case measure => simp [intOf]; omega
        · have HF : Hid (D = false) := by
            rw [HD.out]
            refine decide_eq_false (fun e => hpq (HS.out.2 ?_))
            rw [e]
          clear HS
          obtain ⟨x, y⟩ := p
          obtain ⟨x2, y2⟩ := q
          simp only at c0 c1 d0 d1
          by_cases hx : x = x2
          · subst hx
            have hy : ¬ y = y2 := fun h => hpq (by rw [h])
            have hyb : (y == y2) = false := beq_eq_false_iff_ne.2 hy
            go_wp2_with fail
            go_quiet (fail)
            go_wp2
            go_ret
            exact ⟨by rw [HF.out]; rfl, hK.drewN _⟩
          · have hxb : (x == x2) = false := beq_eq_false_iff_ne.2 hx
            go_wp2_with fail
            go_quiet (fail)
            go_wp2
            go_ret
            exact ⟨by rw [HF.out]; rfl, hK.drewN _⟩
      · obtain rfl : k = n := by omega
        have HF : Hid (D = true) := by
          rw [HD.out]
          refine decide_eq_true ?_
          have := HT.out
          rw [E1.out, List.take_length, ← E1.out, E2.out, List.take_length] at this
          exact this
        clear HT
        go_wp2
        go_ret
        exact ⟨by rw [HF.out]; rfl, hK⟩
  · have HF : Hid (D = false) := by rw [HD.out]; exact decide_eq_false (fun e => hne (by rw [e]))
    have hneI : ¬ ((l.length : Int) = (m.length : Int)) := by omega
    obtain ⟨n1, e1⟩ : ∃ n1, n1 = l.length := ⟨_, rfl⟩
    obtain ⟨n2, e2⟩ : ∃ n2, n2 = m.length := ⟨_, rfl⟩
    rw [← e1] at hneI hne hc1 ⊢
    rw [← e2] at hneI hne hc2 ⊢
    clear h1 h2 e1 e2
    go_enter Try.func25, Try.ntmps25
    go_wp2
    go_ret
    exact ⟨by rw [HF.out]; rfl, Kp.refl w⟩

end Go.Proofs.Ytmkmejdbhikomaa
