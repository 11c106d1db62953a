/-
  Contract of the document's better, and what its Pick finds. Conditions: that the object lies in memory as RX says, that there are the places.
-/
import Derived.Test.YtcmomebjkbhboaaLfROut
namespace Go.Proofs.Ytcmomebjkbhboaa
open Go.RowKit Plain
set_option linter.unusedVariables false

/-- is the key x at the place i to be served ahead of y at the place j? -/
def bt (g h : Int) (i : Nat) (x : Wt) (j : Nat) (y : Wt) : Bool :=
  if (decide (g ≤ x.n) != decide (g ≤ y.n)) = true then decide (g ≤ x.n) else if decide (g ≤ x.n) = true then decide (i < j)
  else if (decide (h ≤ x.k) != decide (h ≤ y.k)) = true then decide (h ≤ x.k) else decide (x.k < y.k)
theorem bt_iff (g h : Int) (i : Nat) (x : Wt) (j : Nat) (y : Wt) : bt g h i x j y = true ↔ (g ≤ x.n ∧ ¬ g ≤ y.n) ∨ (g ≤ x.n ∧ g ≤ y.n ∧ i < j) ∨ (¬ g ≤ x.n ∧ ¬ g ≤ y.n ∧ ((h ≤ x.k ∧ ¬ h ≤ y.k) ∨ (h ≤ x.k ∧ h ≤ y.k ∧ x.k < y.k) ∨ (¬ h ≤ x.k ∧ ¬ h ≤ y.k ∧ x.k < y.k))) := by
  unfold bt
  by_cases h1 : g ≤ x.n <;> by_cases h2 : g ≤ y.n <;> by_cases h3 : h ≤ x.k <;> by_cases h4 : h ≤ y.k <;> simp [h1, h2, h3, h4] <;> omega
set_option maxRecDepth 100000 in
set_option maxHeartbeats 4000000 in
theorem better_any {w0 w : World} {a : Nat} {T : List Nat} {S : LS} (h : RX w0 w a T S) (hl : S.L.length ≤ 1000) {i j : Nat} (hi : i < S.L.length) (hj : j < S.L.length) : Calls Try.prog 23 #[.pointer (some ⟨a, 0, none⟩), .int .i64 i, .int .i64 j] w fun e w' => e = .returned (.bool (bt S.g S.h i (S.L.getD i wz) j (S.L.getD j wz))) ∧ Kp w w' := by
  obtain ⟨pk, gk, ck, pw, gw, cw, hpk, hpw, hk1, hk2, hw1, hw2, c0, c1, c2, c3, fz, hck, hcw⟩ := RL.cells h
  rw [List.length_map] at hpk hpw hk1 hw1 c2 c3 hck hcw
  obtain rfl := hpk (by omega)
  obtain rfl := hpw (by omega)
  have x0 := hck i hi
  have x1 := hcw i hi
  have y0 := hck j hj
  have y1 := hcw j hj
  rw [map_k_at _ _ hi] at x0
  rw [map_n_at _ _ hi] at x1
  rw [map_k_at _ _ hj] at y0
  rw [map_n_at _ _ hj] at y1
  obtain ⟨x, hx⟩ : ∃ x, x = S.L.getD i wz := ⟨_, rfl⟩
  obtain ⟨y, hy⟩ : ∃ y, y = S.L.getD j wz := ⟨_, rfl⟩
  obtain ⟨n, hn⟩ : ∃ n, n = S.L.length := ⟨_, rfl⟩
  obtain ⟨g, hg⟩ : ∃ g, g = S.g := ⟨_, rfl⟩
  obtain ⟨hd, hhd⟩ : ∃ hd, hd = S.h := ⟨_, rfl⟩
  rw [← hx] at x0 x1 ⊢
  rw [← hy] at y0 y1 ⊢
  rw [← hn] at hk1 hw1 c2 c3 hi hj
  rw [← hg] at c0 ⊢
  rw [← hhd] at c1 ⊢
  have hi2 : (i : Int) < (n : Int) := by omega
  have hj2 : (j : Int) < (n : Int) := by omega
  obtain ⟨xk, xn⟩ := x
  obtain ⟨yk, yn⟩ := y
  simp only at x0 x1 y0 y1
  unfold bt
  simp only
  clear h hl hpk hpw hck hcw hx hy hn hg hhd fz
  have hij : decide ((i : Int) < (j : Int)) = decide (i < j) := by simp
  by_cases h1 : g ≤ xn <;> by_cases h2 : g ≤ yn
  · have d1 := decide_eq_true h1
    have d2 := decide_eq_true h2
    rw [d1, d2]
    clear h1 h2
    go_enter Try.func23, Try.ntmps23
    go_wp2_with fail
    go_quiet (fail)
    go_wp2_with fail
    go_quiet (fail)
    go_wp2
    go_ret
    exact ⟨by simp, (Kp.refl w).drewN _⟩
  · have d1 := decide_eq_true h1
    have d2 := decide_eq_false h2
    rw [d1, d2]
    clear h1 h2
    go_enter Try.func23, Try.ntmps23
    go_wp2_with fail
    go_quiet (fail)
    go_wp2_with fail
    go_quiet (fail)
    go_wp2
    go_ret
    exact ⟨by simp, (Kp.refl w).drewN _⟩
  · have d1 := decide_eq_false h1
    have d2 := decide_eq_true h2
    rw [d1, d2]
    clear h1 h2
    go_enter Try.func23, Try.ntmps23
    go_wp2_with fail
    go_quiet (fail)
    go_wp2_with fail
    go_quiet (fail)
    go_wp2
    go_ret
    exact ⟨by simp, (Kp.refl w).drewN _⟩
  · have d1 := decide_eq_false h1
    have d2 := decide_eq_false h2
    rw [d1, d2]
    clear h1 h2
    by_cases h3 : hd ≤ xk <;> by_cases h4 : hd ≤ yk
    · have d3 := decide_eq_true h3
      have d4 := decide_eq_true h4
      rw [d3, d4]
      clear h3 h4
      go_enter Try.func23, Try.ntmps23
      go_wp2_with fail
      go_quiet (fail)
      go_wp2_with fail
      go_quiet (fail)
      go_wp2_with fail
      go_quiet (fail)
      go_wp2_with fail
      go_quiet (fail)
      go_wp2_with fail
      go_quiet (fail)
      go_wp2
      go_ret
      exact ⟨by simp, (Kp.refl w).drewN _⟩
    · have d3 := decide_eq_true h3
      have d4 := decide_eq_false h4
      rw [d3, d4]
      clear h3 h4
      go_enter Try.func23, Try.ntmps23
      go_wp2_with fail
      go_quiet (fail)
      go_wp2_with fail
      go_quiet (fail)
      go_wp2_with fail
      go_quiet (fail)
      go_wp2_with fail
      go_quiet (fail)
      go_wp2
      go_ret
      exact ⟨by simp, (Kp.refl w).drewN _⟩
    · have d3 := decide_eq_false h3
      have d4 := decide_eq_true h4
      rw [d3, d4]
      clear h3 h4
      go_enter Try.func23, Try.ntmps23
      go_wp2_with fail
      go_quiet (fail)
      go_wp2_with fail
      go_quiet (fail)
      go_wp2_with fail
      go_quiet (fail)
      go_wp2_with fail
      go_quiet (fail)
      go_wp2
      go_ret
      exact ⟨by simp, (Kp.refl w).drewN _⟩
    · have d3 := decide_eq_false h3
      have d4 := decide_eq_false h4
      rw [d3, d4]
      clear h3 h4
      go_enter Try.func23, Try.ntmps23
      go_wp2_with fail
      go_quiet (fail)
      go_wp2_with fail
      go_quiet (fail)
      go_wp2_with fail
      go_quiet (fail)
      go_wp2_with fail
      go_quiet (fail)
      go_wp2_with fail
      go_quiet (fail)
      go_wp2
      go_ret
      exact ⟨by simp, (Kp.refl w).drewN _⟩

/-- the best one of the first i. -/
def Bs (S : LS) (i b : Nat) : Prop := b < i ∧ ∀ j, j < i → bt S.g S.h j (S.L.getD j wz) b (S.L.getD b wz) = false
theorem bs_one (S : LS) : Bs S 1 0 := ⟨by omega, fun j hj => by
  obtain rfl : j = 0 := by omega
  rw [← Bool.not_eq_true, bt_iff]
  omega⟩
theorem bs_next {S : LS} {i b : Nat} (h : Bs S i b) : Bs S (i + 1) (if bt S.g S.h i (S.L.getD i wz) b (S.L.getD b wz) = true then i else b) := by
  by_cases e : bt S.g S.h i (S.L.getD i wz) b (S.L.getD b wz) = true
  · rw [if_pos e]
    refine ⟨by omega, fun j hj => ?_⟩
    rw [← Bool.not_eq_true, bt_iff]
    rw [bt_iff] at e
    by_cases hji : j = i
    · subst hji; omega
    · have h2 := h.2 j (by omega)
      rw [← Bool.not_eq_true, bt_iff] at h2
      omega
  · rw [if_neg e]
    refine ⟨by have := h.1; omega, fun j hj => ?_⟩
    by_cases hji : j = i
    · subst hji; simpa using e
    · exact h.2 j (by omega)
theorem bs_nx {S : LS} {m : Int} (hg : Lg S m) {b : Nat} (h : Bs S S.L.length b) : Nx S (S.L.getD b wz).k := by
  have hb := h.1
  have hmem : S.L.getD b wz ∈ S.L := by rw [List.getD_eq_getElem?_getD, List.getElem?_eq_getElem hb]; exact List.getElem_mem hb
  have h0 := h.2 0 (by omega)
  rw [← Bool.not_eq_true, bt_iff] at h0
  have hat : ∀ x ∈ S.L, ∃ j, j < S.L.length ∧ S.L.getD j wz = x := fun x hx => by
    obtain ⟨j, hj, e⟩ := List.mem_iff_getElem.1 hx
    exact ⟨j, hj, by rw [List.getD_eq_getElem?_getD, List.getElem?_eq_getElem hj]; exact e⟩
  have hfirst : ∀ j, j < S.L.length → (S.L.getD j wz).n ≤ (S.L.getD 0 wz).n := fun j hj => by
    by_cases e : j = 0
    · subst e; exact Int.le_refl _
    · have := List.pairwise_iff_getElem.1 hg.o 0 j (by omega) hj (by omega)
      rw [List.getD_eq_getElem?_getD, List.getD_eq_getElem?_getD, List.getElem?_eq_getElem hj, List.getElem?_eq_getElem (by omega : 0 < S.L.length)]
      exact this
  refine ⟨⟨_, hmem, rfl⟩, fun hl => ?_, fun hl => ?_⟩
  · have : b = 0 := by
      by_cases e : b = 0
      · exact e
      · exfalso
        have := hfirst b hb
        omega
    rw [this]
  · have hnl : ∀ j, j < S.L.length → ¬ S.g ≤ (S.L.getD j wz).n := fun j hj => by have := hfirst j hj; omega
    by_cases hu : S.h ≤ (S.L.getD b wz).k
    · refine .inl ⟨hu, fun x hx hxu => ?_⟩
      obtain ⟨j, hj, rfl⟩ := hat x hx
      have h2 := h.2 j hj
      rw [← Bool.not_eq_true, bt_iff] at h2
      have a1 := hnl j hj
      have a2 := hnl b hb
      omega
    · refine .inr ⟨fun x hx => ?_, fun x hx => ?_⟩
      all_goals
        obtain ⟨j, hj, rfl⟩ := hat x hx
        have h2 := h.2 j hj
        rw [← Bool.not_eq_true, bt_iff] at h2
        have a1 := hnl j hj
        have a2 := hnl b hb
        omega
theorem bs_dl {S : LS} (hnd : Nd S.L) {b : Nat} (hb : b < S.L.length) : (S.L.map Wt.k).eraseIdx b = (dlL S.L (S.L.getD b wz).k).map Wt.k ∧ (S.L.map Wt.n).eraseIdx b = (dlL S.L (S.L.getD b wz).k).map Wt.n := by
  have e := wt_at hb
  obtain ⟨A, hA⟩ : ∃ A, A = S.L.take b := ⟨_, rfl⟩
  obtain ⟨y, hy⟩ : ∃ y, y = S.L.getD b wz := ⟨_, rfl⟩
  obtain ⟨B, hB⟩ : ∃ B, B = S.L.drop (b + 1) := ⟨_, rfl⟩
  have hl : A.length = b := by rw [hA, List.length_take]; omega
  rw [← hA, ← hy, ← hB] at e
  rw [← hy, e]
  rw [e] at hnd
  rw [dl_hit hnd rfl]
  have key : ∀ f : Wt → Int, ((A ++ y :: B).map f).eraseIdx b = (A ++ B).map f := fun f => by
    rw [List.map_append, List.map_cons, List.eraseIdx_append_of_length_le (by rw [List.length_map]; omega), List.length_map, hl, Nat.sub_self, List.map_append]
    rfl
  exact ⟨key _, key _⟩

end Go.Proofs.Ytcmomebjkbhboaa
