/-
  Contracts of cmp.Less and slices.BinarySearch over numbers. Conditions: that the cells hold the numbers, rising.
-/
import Derived.Test.YtcmomebjkbhboaaLfAdd
namespace Go.Proofs.Ytcmomebjkbhboaa
open Go.RowKit Plain
set_option linter.unusedVariables false

set_option maxRecDepth 100000 in
theorem cnan_any (x : Int) (w : World) : Calls Try.prog 45 #[.int .i64 x] w fun e w' => e = .returned (.bool false) ∧ w' = w := by
  go_enter Try.func45, Try.ntmps45
  go_wp2
  go_ret
  exact ⟨by simp, rfl⟩
set_option maxRecDepth 100000 in
theorem snan_any (x : Int) (w : World) : Calls Try.prog 34 #[.int .i64 x] w fun e w' => e = .returned (.bool false) ∧ w' = w := by
  go_enter Try.func34, Try.ntmps34
  go_wp2
  go_ret
  exact ⟨by simp, rfl⟩
set_option maxRecDepth 100000 in
theorem less_any (x y : Int) (w : World) : Calls Try.prog 33 #[.int .i64 x, .int .i64 y] w fun e w' => e = .returned (.bool (decide (x < y))) ∧ w' = w := by
  have h1 := cnan_any x w
  go_enter Try.func33, Try.ntmps33
  go_wp2_with fail
  refine h1.mono ?_; rintro e w1 ⟨rfl, rfl⟩
  go_wp2
  go_ret
  exact ⟨rfl, rfl⟩
set_option maxRecDepth 100000 in
set_option maxHeartbeats 2000000 in
theorem bs_any (v : Value) (l : List Int) (x : Int) (w : World) (h : InI w v l) (hl : l.length ≤ 1000) : Calls Try.prog 28 #[v, .int .i64 x] w fun e w' => ∃ i : Nat, (∃ b : Value, e = .returned (.tuple #[.int .i64 i, b])) ∧ i ≤ l.length ∧ (0 < i → l.getD (i - 1) 0 < x) ∧ (i < l.length → x ≤ l.getD i 0) ∧ w' = w := by
  obtain ⟨a, g, cap, rfl, hle, hcp, hg, hc⟩ := h
  obtain ⟨n, hn⟩ : ∃ n, n = l.length := ⟨_, rfl⟩
  rw [← hn] at hle hg hc hl ⊢
  have HC : Hid (∀ j, j < n → w.cell? ⟨g, j, none⟩ = some (.int .i64 (l.getD j 0))) := hc
  have HG : Hid (0 < n → a = some ⟨g, 0, none⟩) := hg
  clear hc hg hn
  go_enter Try.func28, Try.ntmps28
  go_wp2
  go_loopg [7, 8] n (fun kx s5 s6 wr => ∃ (lo hi : Nat), s5 = .int .i64 lo ∧ s6 = .int .i64 hi ∧ lo ≤ hi ∧ hi ≤ n ∧ hi - lo ≤ kx ∧ wr = w ∧ Hid ((0 < lo → l.getD (lo - 1) 0 < x) ∧ (hi < n → x ≤ l.getD hi 0)))
  case atStart => exact ⟨0, n, rfl, rfl, Nat.zero_le _, Nat.le_refl _, by omega, rfl, (⟨fun h => absurd h (by omega), fun h => absurd h (by omega)⟩ : (0 < 0 → l.getD (0 - 1) 0 < x) ∧ (n < n → x ≤ l.getD n 0))⟩
  case round =>
    obtain ⟨lo, hi, rfl, rfl, hlh, hin, hgx, hw, I⟩ := hrel
    rw [hw]
    clear hw
    by_cases hlt : lo < hi
    · obtain rfl := HG.out (by omega)
      have hm : (lo + hi) / 2 < n := by omega
      have d0 := HC.out ((lo + hi) / 2) hm
      obtain ⟨y, hy⟩ : ∃ y, y = l.getD ((lo + hi) / 2) 0 := ⟨_, rfl⟩
      have HY : Hid (y = l.getD ((lo + hi) / 2) 0) := hy
      rw [← hy] at d0
      obtain ⟨m, hmd⟩ : ∃ m, m = (lo + hi) / 2 := ⟨_, rfl⟩
      rw [← hmd] at d0 hm HY
      have hm1 : ((lo : Int) + (hi : Int)) / 2 = (m : Int) := by omega
      have hb1 : lo ≤ m := by omega
      have hb2 : m < hi := by omega
      have hL := less_any y x w
      have hm2 : (m : Int) < (n : Int) := by omega
      have hw1 : IntKind.i64.wrap ((lo : Int) + (hi : Int)) = (lo : Int) + (hi : Int) := by rw [IntKind.wrap_i64]; omega
      clear hy hmd
      by_cases hyx : y < x
      · rw [decide_eq_true hyx] at hL
        have HYX := hid hyx
        clear hyx
        go_wp2_with fail
        refine hL.mono ?_; rintro e w1 ⟨rfl, rfl⟩
        go_wp2
        go_roundg (hi - (m + 1))
        case measure => omega
        case rel =>
          exact ⟨m + 1, hi, by go_num, rfl, by omega, hin, Nat.le_refl _, rfl, (⟨fun _ => by rw [show m + 1 - 1 = m by omega, ← HY.out]; exact HYX.out, I.out.2⟩ : (0 < m + 1 → l.getD (m + 1 - 1) 0 < x) ∧ (hi < n → x ≤ l.getD hi 0))⟩
      · rw [decide_eq_false hyx] at hL
        have HYX := hid hyx
        clear hyx
        go_wp2_with fail
        refine hL.mono ?_; rintro e w1 ⟨rfl, rfl⟩
        go_wp2
        go_roundg (m - lo)
        case measure => omega
        case rel =>
          exact ⟨lo, m, rfl, rfl, by omega, by omega, Nat.le_refl _, rfl, (⟨I.out.1, fun _ => by rw [← HY.out]; have := HYX.out; omega⟩ : (0 < lo → l.getD (lo - 1) 0 < x) ∧ (m < n → x ≤ l.getD m 0))⟩
    · obtain rfl : hi = lo := by omega
      by_cases hin2 : hi < n
      · obtain rfl := HG.out (by omega)
        have d0 := HC.out hi hin2
        obtain ⟨y, hy⟩ : ∃ y, y = l.getD hi 0 := ⟨_, rfl⟩
        rw [← hy] at d0
        have hh2 : (hi : Int) < (n : Int) := by omega
        have hN := fun z => snan_any z w
        clear hy
        by_cases hyx : y = x
        · have hd : (y == x) = true := by simp [hyx]
          have HYX := hid hyx
          clear hyx
          go_wp2_with fail
          go_ret2
          first | exact ⟨hi, ⟨_, rfl⟩, hin, I.out.1, I.out.2, rfl⟩ | exact ⟨hi, rfl, hin, I.out.1, I.out.2, rfl⟩
        · have hd : (y == x) = false := by simp [hyx]
          go_wp2_with (go_at_call 34; refine (hN _).mono ?_; rintro e w1 ⟨rfl, rfl⟩)
          go_ret2
          first | exact ⟨hi, ⟨_, rfl⟩, hin, I.out.1, I.out.2, rfl⟩ | exact ⟨hi, rfl, hin, I.out.1, I.out.2, rfl⟩
      · obtain rfl : hi = n := by omega
        go_wp2_with fail
        go_ret2
        first | exact ⟨hi, ⟨_, rfl⟩, hin, I.out.1, I.out.2, rfl⟩ | exact ⟨hi, rfl, hin, I.out.1, I.out.2, rfl⟩

/-- the keys, rising. -/
def rsL (l : List Wt) : List Int := (l.map Wt.k).mergeSort fun x y => decide (x ≤ y)
theorem rs_len (l : List Wt) : (rsL l).length = l.length := by unfold rsL; rw [List.length_mergeSort, List.length_map]
theorem rs_mem (l : List Wt) (z : Int) : z ∈ rsL l ↔ ∃ x ∈ l, x.k = z := by unfold rsL; rw [List.mem_mergeSort, List.mem_map]
theorem rs_le (l : List Wt) : (rsL l).Pairwise (fun x y => x ≤ y) := by
  unfold rsL
  have := List.pairwise_mergeSort (le := fun x y : Int => decide (x ≤ y)) (fun a b c h1 h2 => by simp at h1 h2 ⊢; omega) (fun a b => by simp; omega) (l.map Wt.k)
  exact this.imp (fun h => by simpa using h)
theorem rs_at {l : List Wt} {i j : Nat} (hij : i ≤ j) (hj : j < l.length) : (rsL l).getD i 0 ≤ (rsL l).getD j 0 := by
  rw [← rs_len] at hj
  rcases Nat.lt_or_eq_of_le hij with h | rfl
  · have := List.pairwise_iff_getElem.1 (rs_le l) i j (by omega) hj h
    simpa [List.getD_eq_getElem?_getD, hj, show i < (rsL l).length by omega] using this
  · exact Int.le_refl _
theorem rs_in {l : List Wt} {x : Wt} (h : x ∈ l) : ∃ j, j < l.length ∧ (rsL l).getD j 0 = x.k := by
  obtain ⟨j, hj, e⟩ := List.mem_iff_getElem.1 ((rs_mem l x.k).2 ⟨x, h, rfl⟩)
  exact ⟨j, by rw [← rs_len]; exact hj, by simpa [List.getD_eq_getElem?_getD, hj] using e⟩
theorem rs_get {l : List Wt} {j : Nat} (h : j < l.length) : ∃ x ∈ l, x.k = (rsL l).getD j 0 := by
  rw [← rs_len] at h
  refine (rs_mem l _).1 ?_
  rw [List.getD_eq_getElem?_getD, List.getElem?_eq_getElem h]
  exact List.getElem_mem h
/-- whose turn it is. -/
def Nx (S : LS) (k : Int) : Prop := (∃ x ∈ S.L, x.k = k) ∧ (S.g ≤ (S.L.getD 0 wz).n → k = (S.L.getD 0 wz).k) ∧ (¬ S.g ≤ (S.L.getD 0 wz).n → (S.h ≤ k ∧ ∀ x ∈ S.L, S.h ≤ x.k → k ≤ x.k) ∨ ((∀ x ∈ S.L, x.k < S.h) ∧ ∀ x ∈ S.L, k ≤ x.k))
theorem nx_one {S : LS} {k k' : Int} (h : Nx S k) (h' : Nx S k') : k = k' := by
  obtain ⟨⟨x, hx, ex⟩, h2, h3⟩ := h
  obtain ⟨⟨y, hy, ey⟩, h5, h6⟩ := h'
  by_cases hl : S.g ≤ (S.L.getD 0 wz).n
  · rw [h2 hl, h5 hl]
  · rcases h3 hl with ⟨q1, q2⟩ | ⟨q1, q2⟩ <;> rcases h6 hl with ⟨q3, q4⟩ | ⟨q3, q4⟩
    · have a1 := q2 y hy (by omega)
      have a2 := q4 x hx (by omega)
      omega
    · have := q3 x hx; omega
    · have := q1 y hy; omega
    · have a1 := q2 y hy
      have a2 := q4 x hx
      omega
theorem nx_late {S : LS} (h0 : 0 < S.L.length) (hl : S.g ≤ (S.L.getD 0 wz).n) : Nx S (S.L.getD 0 wz).k :=
  ⟨⟨_, by rw [List.getD_eq_getElem?_getD, List.getElem?_eq_getElem h0]; exact List.getElem_mem h0, rfl⟩, fun _ => rfl, fun h => absurd hl h⟩
theorem nx_low {S : LS} (h0 : 0 < S.L.length) (hl : ¬ S.g ≤ (S.L.getD 0 wz).n) (h1 : (rsL S.L).getD (S.L.length - 1) 0 < S.h) : Nx S ((rsL S.L).getD 0 0) := by
  refine ⟨rs_get h0, fun h => absurd h hl, fun _ => .inr ⟨fun x hx => ?_, fun x hx => ?_⟩⟩
  · obtain ⟨j, hj, e⟩ := rs_in hx
    have := rs_at (l := S.L) (i := j) (j := S.L.length - 1) (by omega) (by omega)
    omega
  · obtain ⟨j, hj, e⟩ := rs_in hx
    have := rs_at (l := S.L) (i := 0) (j := j) (by omega) hj
    omega
theorem nx_up {S : LS} {i : Nat} (hi : i < S.L.length) (hl : ¬ S.g ≤ (S.L.getD 0 wz).n) (h1 : 0 < i → (rsL S.L).getD (i - 1) 0 < S.h) (h2 : S.h ≤ (rsL S.L).getD i 0) : Nx S ((rsL S.L).getD i 0) := by
  refine ⟨rs_get hi, fun h => absurd h hl, fun _ => .inl ⟨h2, fun x hx hxh => ?_⟩⟩
  obtain ⟨j, hj, e⟩ := rs_in hx
  by_cases hji : i ≤ j
  · have := rs_at (l := S.L) hji hj
    omega
  · have a1 := rs_at (l := S.L) (i := j) (j := i - 1) (by omega) (by omega)
    have a2 := h1 (by omega)
    omega

end Go.Proofs.Ytcmomebjkbhboaa
