/-
  Contracts of marks' Last and Of: the last number of a set, the set of a list's numbers. Condition: that the list's cells hold the numbers.
-/
import Derived.Test.YtffbachgbcefiaaDoorMkNext
namespace Go.Proofs.YtffbachgbcefiaaDoor
open Go.RowKit Plain
set_option linter.unusedVariables false

def lw (f : Nat → Bool) (k : Nat) : Nat := ls 64 (fun j => f (64 * k + j))
theorem word_gone {g : Nat → Bool} {q : Nat} (h : ∀ j, 64 * (q + 1) ≤ j → j < 256 → g j = false) (h0 : wd g q = 0) : ∀ j, 64 * q ≤ j → j < 256 → g j = false := by
  intro j hj hj2
  by_cases e : 64 * (q + 1) ≤ j
  · exact h j e hj2
  · have := wn_zero_iff 64 _ h0 (j - 64 * q) (by omega)
    rw [show 64 * q + (j - 64 * q) = j by omega] at this
    exact this
theorem word_last {g : Nat → Bool} {q : Nat} (h : ∀ j, 64 * (q + 1) ≤ j → j < 256 → g j = false) (h0 : wd g q ≠ 0) (hq : q < 4) : ls 256 g = 64 * q + lw g q ∧ 0 < lw g q ∧ lw g q ≤ 64 := by
  have hl2 : lw g q ≤ 64 := ls_le 64 _
  have hl : 0 < lw g q := by
    apply Nat.pos_of_ne_zero
    intro e
    apply h0
    refine wn_zero 64 _ (fun j hj => ?_)
    exact ls_behind 64 (fun j => g (64 * q + j)) j (by unfold lw at e; omega) hj
  refine ⟨?_, hl, hl2⟩
  have := ls_is 256 g (64 * q + (lw g q - 1)) (by omega) (ls_at 64 (fun j => g (64 * q + j)) hl) (fun i h1 h2 => by
    by_cases e : 64 * (q + 1) ≤ i
    · exact h i e h2
    · have := ls_behind 64 (fun j => g (64 * q + j)) (i - 64 * q) (by unfold lw at h1; omega) (by omega)
      rw [show 64 * q + (i - 64 * q) = i by omega] at this
      exact this)
  omega
def lI (n : Nat) : Int := ((n - 1 : Nat) : Int)

/-- a list of numbers in memory. -/
inductive IntsIn (w : World) : Value → List Int → Prop
  | empty (a : Option Addr) (cap : Nat) (h : cap ≤ maxLen) : IntsIn w (.slice a 0 cap) []
  | some (b off cap : Nat) (l : List Int) (h0 : 0 < l.length) (h1 : l.length ≤ cap) (h2 : cap ≤ maxLen) (hc : ∀ i, i < l.length → w.cell? ⟨b, off + i, none⟩ = Option.some (.int .i64 (l.getD i 0))) : IntsIn w (.slice (Option.some ⟨b, off, none⟩) l.length cap) l
theorem IntsIn.kept {w w' : World} {v : Value} {l : List Int} (h : IntsIn w v l) (k : Kp w w') : IntsIn w' v l := by
  cases h with
  | empty a cap h => exact .empty a cap h
  | some b off cap l h0 h1 h2 hc => exact .some b off cap l h0 h1 h2 (fun i hi => k.held (hc i hi))
theorem take_succ_int (l : List Int) (k : Nat) (h : k < l.length) : l.take (k + 1) = l.take k ++ [l.getD k 0] := by
  rw [List.take_add_one, List.getElem?_eq_getElem h, List.getD_eq_getElem?_getD, List.getElem?_eq_getElem h]; rfl
theorem in_step (l : List Int) (k : Nat) (h : k < l.length) (i : Nat) : orF (inL (l.take k)) (oneF (l.getD k 0)) i = inL (l.take (k + 1)) i := by
  rw [take_succ_int l k h, inL_app]
  unfold orF oneF
  congr 1
  rw [Bool.eq_iff_iff, decide_eq_true_eq, beq_iff_eq]
  exact ⟨fun h => h.symm, fun h => h.symm⟩
set_option maxRecDepth 100000 in
set_option maxHeartbeats 2000000 in
theorem of_at (a : Option Addr) (b off cap : Nat) (l : List Int) (hm : l.length ≤ 9223372036854775807) (ha : 0 < l.length → a = some ⟨b, off, none⟩) (w : World) (hc : ∀ i, i < l.length → w.cell? ⟨b, off + i, none⟩ = some (.int .i64 (l.getD i 0))) :
    Calls Tryd.prog 32 #[.slice a l.length cap] w fun e w' => e = .returned (SV (inL l)) ∧ Kp w w' := by
  have a1 := (A4.new w no4 28).alloc (.cells (w4 no4) 28)
  have a2 := A4.new (w.alloc (.cells (w4 no4) 28)) no4 28
  have K0 : Kp w ((w.alloc (.cells (w4 no4) 28)).alloc (.cells (w4 no4) 28)) := ((Kp.refl w).alloc _).alloc _
  have e1 : (w.alloc (.cells (w4 no4) 28)).heap.size = w.heap.size + 1 := by simp
  rw [e1] at a2
  clear e1
  obtain ⟨n, hn⟩ : ∃ n, n = l.length := ⟨_, rfl⟩
  rw [← hn] at hm ha ⊢
  have HC : Hid (∀ i, i < n → w.cell? ⟨b, off + i, none⟩ = some (.int .i64 (l.getD i 0))) := fun i hi => hc i (by omega)
  have HN : Hid (n = l.length) := hn
  clear hc hn
  unfold SV
  go_enter Tryd.func32, Tryd.ntmps32
  go_wp2
  go_loopw [9] (fun i wr => ∃ k : Nat, k ≤ n ∧ i = .int .i64 k ∧ A4 wr (w.heap.size + 1) (wd (inL (l.take k))) ∧ A4 wr w.heap.size no4 ∧ Kp w wr) (fun i _ => n - (intOf i).toNat)
  case atStart => exact ⟨0, by omega, rfl, a2.congr (fun j _ => (no_word j).symm), a1, K0⟩
  case round =>
    clear a1 a2 K0
    obtain ⟨k, hk, rfl, h1, h2, hK⟩ := hrel
    by_cases hlt : k < n
    · obtain rfl := ha (by omega)
      have hci := hK.held (HC.out k hlt)
      obtain ⟨x, hx⟩ : ∃ x, x = l.getD k 0 := ⟨_, rfl⟩
      have hS : ∀ i, orF (inL (l.take k)) (oneF x) i = inL (l.take (k + 1)) i := fun i => by rw [hx]; exact in_step l k (by rw [← HN.out]; exact hlt) i
      have hN := with_any (inL (l.take k)) x
      rw [SV_congr (fun i _ => hS i)] at hN
      rw [← hx] at hci
      obtain ⟨g, hg⟩ : ∃ g, g = inL (l.take k) := ⟨_, rfl⟩
      obtain ⟨g', hg'⟩ : ∃ g', g' = inL (l.take (k + 1)) := ⟨_, rfl⟩
      rw [← hg] at h1 hN
      rw [← hg'] at hN
      obtain ⟨c0, c1, c2, c3⟩ := h1.cells
      have HZ : Hid (∀ W, Kp wr W → (W.cell? ⟨w.heap.size + 1, 0, none⟩ = some (.int .u64 (wd g 0 : Nat)) ∧ W.cell? ⟨w.heap.size + 1, 1, none⟩ = some (.int .u64 (wd g 1 : Nat)) ∧ W.cell? ⟨w.heap.size + 1, 2, none⟩ = some (.int .u64 (wd g 2 : Nat)) ∧ W.cell? ⟨w.heap.size + 1, 3, none⟩ = some (.int .u64 (wd g 3 : Nat))) ∧ (∀ o, W.frozen? ⟨w.heap.size + 1, o, none⟩ = false) ∧ A4 (put4 W (w.heap.size + 1) (wd g')) (w.heap.size + 1) (wd (inL (l.take (k + 1)))) ∧ A4 (put4 W (w.heap.size + 1) (wd g')) w.heap.size no4 ∧ Kp w (put4 W (w.heap.size + 1) (wd g'))) := fun W hw =>
        ⟨(h1.kept hw).cells, (h1.kept hw).z, by rw [← hg']; exact (h1.kept hw).put _, (h2.kept hw).putFar (by omega) _, (hK.trans hw).put4 (by omega) _⟩
      clear h1 h2 hK hg hg' hx hS
      unfold SV at hN
      go_wp2_with fail
      refine (hN _).mono ?_; rintro e W ⟨rfl, kW⟩
      obtain ⟨⟨d0, d1, d2, d3⟩, zz, HR0⟩ := HZ.out W kW
      have HR : Hid (A4 (put4 W (w.heap.size + 1) (wd g')) (w.heap.size + 1) (wd (inL (l.take (k + 1)))) ∧ A4 (put4 W (w.heap.size + 1) (wd g')) w.heap.size no4 ∧ Kp w (put4 W (w.heap.size + 1) (wd g'))) := HR0
      clear HR0 HZ kW c0 c1 c2 c3 hci
      go_wp2
      go_roundw
      case rel => exact ⟨k + 1, by omega, by go_num, HR.out⟩
      case measure => simp [intOf]; omega
    · obtain rfl : k = n := by omega
      rw [HN.out, List.take_length] at h1
      obtain ⟨c0, c1, c2, c3⟩ := h1.cells
      obtain ⟨d0, d1, d2, d3⟩ := h2.cells
      have z3 := h2.z
      have HA : Hid (A4 (put4 wr w.heap.size (wd (inL l))) w.heap.size (wd (inL l)) ∧ Kp w (put4 wr w.heap.size (wd (inL l)))) := ⟨h2.put _, hK.put4 (by omega) _⟩
      clear h1 h2 hK ha
      go_wp2
      refine bodyPost_ret (results_set rfl _ _ w.heap.size (wd (inL l)) rfl HA.out.1) rfl ?_
      exact ⟨rfl, HA.out.2⟩
theorem of_any (v : Value) (l : List Int) (w : World) (h : IntsIn w v l) : Calls Tryd.prog 32 #[v] w fun e w' => e = .returned (SV (inL l)) ∧ Kp w w' := by
  cases h with
  | empty a cap h => exact of_at a 0 0 cap [] (by simp) (fun h => absurd h (by simp)) w (fun i hi => absurd hi (by simp))
  | some b off cap l h0 h1 h2 hc => exact of_at _ b off cap l (by unfold maxLen at h2; omega) (fun _ => rfl) w hc

end Go.Proofs.YtffbachgbcefiaaDoor
