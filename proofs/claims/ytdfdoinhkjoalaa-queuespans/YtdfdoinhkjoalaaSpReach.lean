/-
  Contracts of sort.Search at the two searches of spans' reach, of reach's closures, and of reach: where those spans begin and end that have places of another one. Conditions: that the list's cells hold the spans.
-/
import Derived.Test.YtdfdoinhkjoalaaSpGood
import Derived.Deep.LoopGhost
import Derived.Shelf.Abstract
namespace Go.Proofs.Ytdfdoinhkjoalaa
open Go.RowKit Plain
set_option linter.unusedVariables false

set_option maxRecDepth 100000 in
theorem clo1_any (b off cap n : Nat) (x c : Int) (i : Nat) (hi : i < n) (bl bs : Nat) (w : World) (hl : w.cell? ⟨bl, 0, none⟩ = some (.slice (some ⟨b, off, none⟩) n cap)) (hx : w.cell? ⟨b, off + i * 2 + 1, none⟩ = some (.int .i64 x)) (hc : w.cell? ⟨bs, 0, none⟩ = some (.int .i64 c)) :
    Calls Try.prog 50 #[.int .i64 i, .pointer (some ⟨bl, 0, none⟩), .pointer (some ⟨bs, 0, none⟩)] w fun e w' => e = .returned (.bool (decide (c < x))) ∧ Kp w w' := by
  have hiz : (i : Int) < (n : Int) := by omega
  go_enter Try.func50, Try.ntmps50
  go_wp2_with fail
  go_quiet (fail)
  go_wp2
  go_ret
  exact ⟨rfl, (Kp.refl w).drewN _⟩
set_option maxRecDepth 100000 in
theorem clo2_any (b off cap n : Nat) (x c : Int) (i : Nat) (hi : i < n) (bl bs : Nat) (w : World) (hl : w.cell? ⟨bl, 0, none⟩ = some (.slice (some ⟨b, off, none⟩) n cap)) (hx : w.cell? ⟨b, off + i * 2, none⟩ = some (.int .i64 x)) (hc : w.cell? ⟨bs, 1, none⟩ = some (.int .i64 c)) :
    Calls Try.prog 51 #[.int .i64 i, .pointer (some ⟨bl, 0, none⟩), .pointer (some ⟨bs, 0, none⟩)] w fun e w' => e = .returned (.bool (decide (c ≤ x))) ∧ Kp w w' := by
  have hiz : (i : Int) < (n : Int) := by omega
  go_enter Try.func51, Try.ntmps51
  go_wp2_with fail
  go_quiet (fail)
  go_wp2
  go_ret
  exact ⟨rfl, (Kp.refl w).drewN _⟩
set_option maxRecDepth 100000 in
set_option maxHeartbeats 1000000 in
theorem search_any (g : Nat) (cb : Array Value) (n : Nat) (p : Nat → Bool) (w : World) (eg : ∀ args w, (callFunc g args).run Try.prog w = .ok (.enter g args) w) (hsz : n < 4611686018427387904)
    (hf : ∀ w', Kp w w' → ∀ i : Nat, i < n → Calls Try.prog g (#[.int .i64 i] ++ cb) w' fun e w'' => e = .returned (.bool (p i)) ∧ Kp w' w'') :
    Calls Try.prog 41 #[.int .i64 n, .func (.func g) #[] cb] w fun e w' => ∃ i : Nat, e = .returned (.int .i64 i) ∧ i ≤ n ∧ (0 < i → p (i - 1) = false) ∧ (i < n → p i = true) ∧ Kp w w' := by
  have HF : Hid (∀ w', Kp w w' → ∀ i : Nat, i < n → Calls Try.prog g (#[.int .i64 i] ++ cb) w' fun e w'' => e = .returned (.bool (p i)) ∧ Kp w' w'') := hf
  clear hf
  go_enter Try.func41, Try.ntmps41
  go_wp2
  go_loopg [5, 6] n (fun kx s5 s6 wr => ∃ (lo hi : Nat), s5 = .int .i64 lo ∧ s6 = .int .i64 hi ∧ lo ≤ hi ∧ hi ≤ n ∧ hi - lo ≤ kx ∧ Kp w wr ∧ Hid ((0 < lo → p (lo - 1) = false) ∧ (hi < n → p hi = true)))
  case atStart => exact ⟨0, n, rfl, rfl, Nat.zero_le _, Nat.le_refl _, by omega, Kp.refl w, (⟨fun h => absurd h (by omega), fun h => absurd h (by omega)⟩ : (0 < 0 → p (0 - 1) = false) ∧ (n < n → p n = true))⟩
  case round =>
    obtain ⟨lo, hi, rfl, rfl, hlh, hin, hg, hK, I⟩ := hrel
    by_cases hlt : lo < hi
    · have hc := HF.out wr hK ((lo + hi) / 2) (by omega)
      rw [show (((lo + hi) / 2 : Nat) : Int) = ((lo : Int) + (hi : Int)) / 2 by omega] at hc
      cases hp : p ((lo + hi) / 2) <;> rw [hp] at hc
      · have HP : Hid (p ((lo + hi) / 2) = false) := hp
        clear hp
        go_wp2_with (go_at_fn g; refine hc.mono ?_; rintro e w' ⟨rfl, k2⟩)
        go_roundg (hi - ((lo + hi) / 2 + 1))
        case measure => omega
        case rel =>
          exact ⟨(lo + hi) / 2 + 1, hi, by rw [show ((lo : Int) + (hi : Int)) / 2 + 1 = (((lo + hi) / 2 + 1 : Nat) : Int) by omega], rfl, by omega, hin, Nat.le_refl _, hK.trans k2, (⟨fun _ => HP.out, I.out.2⟩ : (0 < (lo + hi) / 2 + 1 → p ((lo + hi) / 2 + 1 - 1) = false) ∧ (hi < n → p hi = true))⟩
      · have HP : Hid (p ((lo + hi) / 2) = true) := hp
        clear hp
        go_wp2_with (go_at_fn g; refine hc.mono ?_; rintro e w' ⟨rfl, k2⟩)
        go_roundg ((lo + hi) / 2 - lo)
        case measure => omega
        case rel =>
          exact ⟨lo, (lo + hi) / 2, rfl, by rw [show ((lo : Int) + (hi : Int)) / 2 = (((lo + hi) / 2 : Nat) : Int) by omega], by omega, by omega, Nat.le_refl _, hK.trans k2, (⟨I.out.1, fun _ => HP.out⟩ : (0 < lo → p (lo - 1) = false) ∧ ((lo + hi) / 2 < n → p ((lo + hi) / 2) = true))⟩
    · obtain rfl : hi = lo := by omega
      go_wp2
      go_ret
      exact ⟨hi, rfl, hin, I.out.1, I.out.2, hK⟩

theorem enter1 : ∀ args w, (callFunc 50 args).run Try.prog w = .ok (.enter 50 args) w := enters_of Try.func50 (by kernel_rfl) rfl
theorem enter2 : ∀ args w, (callFunc 51 args).run Try.prog w = .ok (.enter 51 args) w := enters_of Try.func51 (by kernel_rfl) rfl
set_option maxRecDepth 100000 in
set_option maxHeartbeats 1000000 in
theorem reach_at (a : Option Addr) (b off cap : Nat) (l : List (Int × Int)) (s : (Int × Int)) (w : World) (h : SpAt w a b off cap l) (hlen : l.length ≤ 1099511627776) : Calls Try.prog 46 #[.slice a l.length cap, spV s] w fun e w' => ∃ i j : Nat, e = .returned (.tuple #[.int .i64 i, .int .i64 j]) ∧
    (i ≤ l.length ∧ (0 < i → (l.getD (i - 1) (0, 0)).2 ≤ s.1) ∧ (i < l.length → s.1 < (l.getD i (0, 0)).2)) ∧ (j ≤ l.length ∧ (0 < j → (l.getD (j - 1) (0, 0)).1 < s.2) ∧ (j < l.length → s.2 ≤ (l.getD j (0, 0)).1)) ∧ Kp w w' := by
  obtain ⟨x, y⟩ := s
  obtain ⟨w0, hw0⟩ : ∃ w0, w0 = (w.alloc (.cells #[.slice a l.length cap] 51)).alloc (.cells #[.int .i64 x, .int .i64 y] 76) := ⟨_, rfl⟩
  have HW : Hid (w0 = (w.alloc (.cells #[.slice a l.length cap] 51)).alloc (.cells #[.int .i64 x, .int .i64 y] 76)) := hw0
  have k0 : Kp w w0 := by rw [hw0]; exact ((Kp.refl w).alloc _).alloc _
  have q0 : w0.cell? ⟨w.heap.size, 0, none⟩ = some (.slice a l.length cap) := by rw [hw0]; simp
  have q1 : w0.cell? ⟨w.heap.size + 1, 0, none⟩ = some (.int .i64 x) := by rw [hw0, World.cell?_alloc_at _ _ _ _ (by simp)]; rfl
  have q2 : w0.cell? ⟨w.heap.size + 1, 1, none⟩ = some (.int .i64 y) := by rw [hw0, World.cell?_alloc_at _ _ _ _ (by simp)]; rfl
  clear hw0
  have hf1 : ∀ w', Kp w0 w' → ∀ i : Nat, i < l.length → Calls Try.prog 50 (#[.int .i64 i] ++ #[.pointer (some ⟨w.heap.size, 0, none⟩), .pointer (some ⟨w.heap.size + 1, 0, none⟩)]) w' fun e w'' => e = .returned (.bool (decide (x < (l.getD i (0, 0)).2))) ∧ Kp w' w'' := fun w' k i hi => by
    have ha := h.ha (by omega)
    exact clo1_any b off cap l.length _ x i hi _ _ w' (by rw [← ha]; exact k.held q0) ((k0.trans k).held (h.c1 i hi)) (k.held q1)
  have hf2 : ∀ w', Kp w0 w' → ∀ i : Nat, i < l.length → Calls Try.prog 51 (#[.int .i64 i] ++ #[.pointer (some ⟨w.heap.size, 0, none⟩), .pointer (some ⟨w.heap.size + 1, 0, none⟩)]) w' fun e w'' => e = .returned (.bool (decide (y ≤ (l.getD i (0, 0)).1))) ∧ Kp w' w'' := fun w' k i hi => by
    have ha := h.ha (by omega)
    exact clo2_any b off cap l.length _ y i hi _ _ w' (by rw [← ha]; exact k.held q0) ((k0.trans k).held (h.c0 i hi)) (k.held q2)
  have hs1 := search_any 50 #[.pointer (some ⟨w.heap.size, 0, none⟩), .pointer (some ⟨w.heap.size + 1, 0, none⟩)] l.length (fun i => decide (x < (l.getD i (0, 0)).2)) w0 enter1 (by omega) hf1
  have hs2 : ∀ w', Kp w0 w' → Calls Try.prog 41 #[.int .i64 l.length, .func (.func 51) #[] #[.pointer (some ⟨w.heap.size, 0, none⟩), .pointer (some ⟨w.heap.size + 1, 0, none⟩)]] w' fun e w'' => ∃ i : Nat, e = .returned (.int .i64 i) ∧ i ≤ l.length ∧ (0 < i → decide (y ≤ (l.getD (i - 1) (0, 0)).1) = false) ∧ (i < l.length → decide (y ≤ (l.getD i (0, 0)).1) = true) ∧ Kp w' w'' :=
    fun w' k => search_any 51 _ l.length (fun i => decide (y ≤ (l.getD i (0, 0)).1)) w' enter2 (by omega) (fun w'' k2 => hf2 w'' (k.trans k2))
  clear hf1 hf2
  obtain ⟨n, hn⟩ : ∃ n, n = l.length := ⟨_, rfl⟩
  rw [← hn] at hs1 hs2 q0 HW hlen ⊢
  have hmf : ∀ (fn : Fn) (first cap : Array Value) (w : World), (Instr.makeFunc fn first cap).run Try.prog w = .ok (.func fn first cap) w := fun _ _ _ _ => rfl
  have HS1 : Hid _ := hs1
  have HS2 : Hid _ := hs2
  clear hs1 hs2 h hn
  unfold spV
  go_enter Try.func46, Try.ntmps46
  go_wp2_with fail
  rw [show (w.alloc (.cells #[.slice a n cap] 51)).alloc (.cells #[.int .i64 x, .int .i64 y] 76) = w0 from HW.out.symm]
  clear HW
  refine Calls.mono HS1.out ?_; rintro e w1 ⟨i, rfl, i1, i2, i3, k1⟩
  have HI : Hid ((0 < i → decide (x < (l.getD (i - 1) (0, 0)).2) = false) ∧ (i < n → decide (x < (l.getD i (0, 0)).2) = true)) := ⟨i2, i3⟩
  have q3 := k1.held q0
  clear i2 i3 HS1 q0 q1 q2
  go_wp2_with fail
  refine Calls.mono (HS2.out _ k1) ?_; rintro e w2 ⟨j, rfl, j1, j2, j3, k2⟩
  have HJ : Hid ((0 < j → decide (y ≤ (l.getD (j - 1) (0, 0)).1) = false) ∧ (j < n → decide (y ≤ (l.getD j (0, 0)).1) = true)) := ⟨j2, j3⟩
  clear j2 j3 HS2 q3
  go_wp2
  go_ret2
  refine ⟨i, j, rfl, ⟨i1, fun h => ?_, fun h => ?_⟩, ⟨j1, fun h => ?_, fun h => ?_⟩, (k0.trans k1).trans k2⟩
  · have := HI.out.1 h; rw [decide_eq_false_iff_not] at this; show _ ≤ x; omega
  · have := HI.out.2 h; rw [decide_eq_true_eq] at this; exact this
  · have := HJ.out.1 h; rw [decide_eq_false_iff_not] at this; show _ < y; omega
  · have := HJ.out.2 h; rw [decide_eq_true_eq] at this; exact this
theorem reach_any (v : Value) (l : List (Int × Int)) (s : (Int × Int)) (w : World) (h : SpIn w v l) (hlen : l.length ≤ 1099511627776) (hG : G l) (hs : s.1 < s.2) : Calls Try.prog 46 #[v, spV s] w fun e w' => ∃ i j : Nat, e = .returned (.tuple #[.int .i64 i, .int .i64 j]) ∧ Mid l s i j ∧ Kp w w' := by
  obtain ⟨a, b, off, cap, rfl, h⟩ := h
  refine (reach_at a b off cap l s w h hlen).mono ?_
  rintro e w' ⟨i, j, rfl, ⟨i1, i2, i3⟩, ⟨j1, j2, j3⟩, k⟩
  exact ⟨i, j, rfl, mid_of hG hs (turn_to hG.nb s.1 i i1 i2 i3) (turn_from hG.nb s.2 j j1 j2 j3), k⟩

end Go.Proofs.Ytdfdoinhkjoalaa
