/-
  Contract of the laws' own wakes: what the document fixes. No condition.
-/
import Derived.Test.YtmkmejdbhikomaaSpLists
import Derived.Test.YtmkmejdbhikomaaSpAdd
import Derived.Test.YtmkmejdbhikomaaSpCut
import Derived.Test.YtmkmejdbhikomaaSpGaps
namespace Go.Proofs.Ytmkmejdbhikomaa
open Go.RowKit Plain
set_option linter.unusedVariables false

def wL : List (Int × Int) := [(0, 2), (5, 9)]
theorem wL_good : G wL := (gL_iff wL).1 (by decide)
theorem wA (R : List (Int × Int)) (h : rfE wL (2, 3) = 0 → G R ∧ ∀ x, hs R x = (hs wL x || inS (2, 3) x)) : R = [(0, 3), (5, 9)] := by
  obtain ⟨h1, h2⟩ := h (by decide)
  refine h1.one ((gL_iff _).1 (by decide)) (fun x => ?_)
  rw [h2 x, Bool.eq_iff_iff]
  simp [hs, wL, inS]
  omega
theorem wC (R : List (Int × Int)) (h : rfE wL (6, 7) = 0 → G R ∧ ∀ x, hs R x = (hs wL x && !inS (6, 7) x)) : R = [(0, 2), (5, 6), (7, 9)] := by
  obtain ⟨h1, h2⟩ := h (by decide)
  refine h1.one ((gL_iff _).1 (by decide)) (fun x => ?_)
  rw [h2 x, Bool.eq_iff_iff]
  simp [hs, wL, inS]
  omega
theorem wG (R : List (Int × Int)) (h : rfE wL (1, 7) = 0 → G R ∧ ∀ x, hs R x = (inS (1, 7) x && !hs wL x)) : R = [(2, 5)] := by
  obtain ⟨h1, h2⟩ := h (by decide)
  refine h1.one ((gL_iff _).1 (by decide)) (fun x => ?_)
  rw [h2 x, Bool.eq_iff_iff]
  simp [hs, wL, inS]
  omega
/-- the first spans of a list in memory. -/
theorem first_in {w : World} {v : Value} {p : (Int × Int)} {l : List (Int × Int)} (h : SpIn w v (p :: l)) : ∃ b off cap, v = .slice (some ⟨b, off, none⟩) (l.length + 1) cap ∧ l.length + 1 ≤ cap ∧ cap ≤ 9223372036854775807 ∧ w.cell? ⟨b, off, none⟩ = some (.int .i64 p.1) ∧ w.cell? ⟨b, off + 1, none⟩ = some (.int .i64 p.2) ∧ ∀ q m, l = q :: m → w.cell? ⟨b, off + 2, none⟩ = some (.int .i64 q.1) ∧ w.cell? ⟨b, off + 2 + 1, none⟩ = some (.int .i64 q.2) := by
  obtain ⟨a, b, off, cap, rfl, hA⟩ := h
  obtain rfl := hA.ha (by simp)
  have hle := hA.le
  have hmx := hA.mx
  unfold maxLen at hmx
  refine ⟨b, off, cap, rfl, hle, by omega, ?_, ?_, fun q m e => ⟨?_, ?_⟩⟩
  · have := hA.c0 0 (by simp); simpa using this
  · have := hA.c1 0 (by simp); simpa using this
  · subst e; have := hA.c0 1 (by simp); simpa using this
  · subst e; have := hA.c1 1 (by simp); simpa using this
set_option maxRecDepth 100000 in
set_option maxHeartbeats 2000000 in
theorem wakes_any (w : World) : Calls Try.prog 14 #[] w fun e w' => e = .returned (.bool true) ∧ Kp w w' := by
  obtain ⟨w0, hw0⟩ : ∃ w0, w0 = w.alloc (.cells #[.int .i64 0, .int .i64 2, .int .i64 5, .int .i64 9] 30) := ⟨_, rfl⟩
  have HW : Hid (w0 = w.alloc (.cells #[.int .i64 0, .int .i64 2, .int .i64 5, .int .i64 9] 30)) := hw0
  have k0 : Kp w w0 := by rw [hw0]; exact (Kp.refl w).alloc _
  have hSp : SpIn w0 (.slice (some ⟨w.heap.size, 0, none⟩) 2 2) wL := by
    rw [hw0]
    refine ⟨_, w.heap.size, 0, 2, rfl, fun _ => rfl, fun h => (by cases h), by simp [wL], by unfold maxLen; omega, fun i h => ?_, fun i h => ?_⟩
    · have : i = 0 ∨ i = 1 := by simp [wL] at h; omega
      rcases this with rfl | rfl <;> (rw [World.cell?_alloc_at _ _ _ _ rfl]; rfl)
    · have : i = 0 ∨ i = 1 := by simp [wL] at h; omega
      rcases this with rfl | rfl <;> (rw [World.cell?_alloc_at _ _ _ _ rfl]; rfl)
  clear hw0
  have hA := add_any _ wL (2, 3) w0 hSp (by decide)
  have hC : ∀ w', Kp w0 w' → Calls Try.prog 21 #[.slice (some ⟨w.heap.size, 0, none⟩) 2 2, spV (6, 7)] w' (fun e w'' => Res wL (6, 7) (fun p q => p && !q) w' w'' e) := fun w' k => cut_any _ wL (6, 7) w' (hSp.kept k) (by decide)
  have hG : ∀ w', Kp w0 w' → Calls Try.prog 23 #[.slice (some ⟨w.heap.size, 0, none⟩) 2 2, spV (1, 7)] w' (fun e w'' => Res wL (1, 7) (fun p q => q && !p) w' w'' e) := fun w' k => gaps_any _ wL (1, 7) w' (hSp.kept k) (by decide)
  have hT : ∀ w', Kp w0 w' → Calls Try.prog 18 #[.slice (some ⟨w.heap.size, 0, none⟩) 2 2] w' (fun e w'' => e = .returned (.int .i64 6) ∧ Kp w' w'') := fun w' k => by
    have := total_any _ wL w' (hSp.kept k)
    rwa [show totI wL = 6 from by decide] at this
  have HA : Hid _ := hA
  have HC : Hid _ := hC
  have HG : Hid _ := hG
  have HT : Hid _ := hT
  clear hA hC hG hT hSp
  have e1 : rfE wL (2, 3) = 0 := by decide
  have e2 : rfE wL (6, 7) = 0 := by decide
  have e3 : rfE wL (1, 7) = 0 := by decide
  go_enter Try.func14, Try.ntmps14
  go_wp2_with fail
  rw [show w.alloc (.cells #[.int .i64 0, .int .i64 2, .int .i64 5, .int .i64 9] 30) = w0 from HW.out.symm]
  clear HW
  refine Calls.mono HA.out ?_; rintro e w1 ⟨u1, R1, rfl, hu1, k1, _, r1, _⟩
  obtain rfl := wA R1 r1
  obtain ⟨b1, o1, p1, rfl, n1, m1, c1, c2, _⟩ := first_in hu1
  simp only at c1 c2
  rw [e1]
  have K1 : Hid (Kp w0 w1) := k1
  clear HA hu1 r1 k1
  go_wp2_with fail
  refine Calls.mono (HC.out w1 K1.out) ?_; rintro e w2 ⟨u2, R2, rfl, hu2, k2, _, r2, _⟩
  obtain rfl := wC R2 r2
  obtain ⟨b2, o2, p2, rfl, n2, m2, _, _, hs2⟩ := first_in hu2
  obtain ⟨c3, c4⟩ := hs2 _ _ rfl
  simp only at c3 c4
  rw [e2]
  have K2 : Hid (Kp w0 w2) := K1.out.trans k2
  have d1 := k2.held c1
  have d2 := k2.held c2
  clear HC hu2 r2 k2 hs2 K1 c1 c2
  go_wp2_with fail
  refine Calls.mono (HG.out w2 K2.out) ?_; rintro e w3 ⟨u3, R3, rfl, hu3, k3, _, r3, _⟩
  obtain rfl := wG R3 r3
  obtain ⟨b3, o3, p3, rfl, n3, m3, c5, c6, _⟩ := first_in hu3
  simp only at c5 c6
  rw [e3]
  have K3 : Hid (Kp w0 w3) := K2.out.trans k3
  have f1 := k3.held d1
  have f2 := k3.held d2
  have f3 := k3.held c3
  have f4 := k3.held c4
  clear HG hu3 r3 k3 K2 d1 d2 c3 c4
  go_wp2_with fail
  refine Calls.mono (HT.out w3 K3.out) ?_; rintro e w4 ⟨rfl, k4⟩
  have K4 : Hid (Kp w w4) := (k0.trans K3.out).trans k4
  clear HT k4 K3
  go_wp2
  go_ret
  exact ⟨rfl, K4.out⟩

end Go.Proofs.Ytmkmejdbhikomaa
