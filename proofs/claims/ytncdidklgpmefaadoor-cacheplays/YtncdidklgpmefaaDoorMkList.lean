/-
  Contract of marks' List: all numbers of a set, rising, in memory of the call's own. Condition: that the library's table reads as its text lays it.
-/
import Derived.Test.YtncdidklgpmefaaDoorMkOf
import Derived.Deep.OwnRows
import Derived.Maps.AppendAt
namespace Go.Proofs.YtncdidklgpmefaaDoor
open Go.RowKit Plain
set_option linter.unusedVariables false

theorem A4.grown {w w' : World} {b : Nat} {v : Nat → Nat} {row : Option Nat} (h : A4 w b v) (g : w.grownBy w' row) (hr : ∀ k, row = some k → b < k) : A4 w' b v :=
  h.of_block (g.block b h.lt (fun e => by have := hr b e.symm; omega)) g.size
def iv (l : List Nat) : List Value := l.map fun i => Value.int .i64 (i : Nat)
theorem IntsIn.owned {w : World} {base : Nat} {e : TypeId} {v : Value} {l : List Nat} (h : w.ownsRow base e 1 v l.length (iv l)) : IntsIn w v (l.map Int.ofNat) := by
  rcases h.2 with ⟨rfl, h0⟩ | ⟨g, cap, cur, rfl, _, hg, hn, hm, _, htake⟩
  · obtain rfl : l = [] := List.eq_nil_of_length_eq_zero h0
    exact .empty none 0 (by unfold maxLen; omega)
  · by_cases h0 : l.length = 0
    · obtain rfl : l = [] := List.eq_nil_of_length_eq_zero h0
      exact .empty _ cap hm
    · have := IntsIn.some (w := w) g 0 cap (l.map Int.ofNat) (by rw [List.length_map]; omega) (by rw [List.length_map]; omega) hm (fun i hi => by
        rw [List.length_map] at hi
        rw [Nat.zero_add, h.cellAt i (by omega)]
        unfold iv
        simp [List.getD_eq_getElem?_getD, hi])
      rw [List.length_map] at this
      exact this
def meas (i ok : Value) : Nat := match ok with | .bool true => 256 - (intOf i).toNat | _ => 0
theorem fl_next (f : Nat → Bool) (a : Nat) (ha : a ≤ 256) : fl (nx f a) f = fl (min a 256) f ∧ (nx f a < 256 → f (nx f a) = true) ∧ nx f a ≤ 256 ∧ (nx f a < 256 → a ≤ nx f a) := by
  have h1 := fs_le 256 (lessF f (upF a))
  have h2 := fs_at 256 (lessF f (upF a))
  have h3 := fs_before 256 (lessF f (upF a))
  have hge : nx f a < 256 → a ≤ nx f a := fun hl => by
    have := h2 hl
    unfold lessF upF at this
    rw [Bool.and_eq_true, Bool.not_eq_true', decide_eq_false_iff_not] at this
    unfold nx lessF upF
    omega
  refine ⟨?_, fun hl => ?_, h1, hge⟩
  · rw [show min a 256 = a by omega]
    refine fl_skip' f a (nx f a) ?_ (fun j h4 h5 => ?_)
    · by_cases hl : nx f a < 256
      · exact hge hl
      · have : nx f a ≤ 256 := h1
        omega
    · have := h3 j h5
      unfold lessF upF at this
      rw [decide_eq_false (by omega), Bool.not_false, Bool.and_true] at this
      exact this
  · have := h2 hl
    unfold lessF at this
    rw [Bool.and_eq_true] at this
    exact this.1
set_option maxRecDepth 100000 in
set_option maxHeartbeats 4000000 in
theorem list_any (f : Nat → Bool) (w : World) (hT : Tab w) : Calls Tryd.prog 37 #[SV f] w fun e w' => ∃ v, e = .returned v ∧ IntsIn w' v ((fl 256 f).map Int.ofNat) ∧ Kp w w' := by
  obtain ⟨i0, hi, hz0, hz1, hz2⟩ := info_parts info_int
  obtain ⟨w0, hw0⟩ : ∃ w0, w0 = w.alloc (.cells (w4 (wd f)) 67) := ⟨_, rfl⟩
  have a1 : A4 w0 w.heap.size (wd f) := by rw [hw0]; exact A4.new w _ _
  have k0 : Kp w w0 := by rw [hw0]; exact (Kp.refl w).alloc _
  have HW : Hid (w0 = w.alloc (.cells (w4 (wd f)) 67)) := hw0
  clear hw0
  have hC := count_any f w0
  have hcn := cn_le 256 f
  obtain ⟨c, hc⟩ : ∃ c, c = cn 256 f := ⟨_, rfl⟩
  rw [← hc] at hC hcn
  clear hc
  unfold SV at hC ⊢
  go_enter Tryd.func37, Tryd.ntmps37
  go_wp2_with fail
  rw [show w.alloc (.cells #[.int .u64 ((wd f 0 : Nat) : Int), .int .u64 ((wd f 1 : Nat) : Int), .int .u64 ((wd f 2 : Nat) : Int), .int .u64 ((wd f 3 : Nat) : Int)] 67) = w0 from HW.out.symm]
  clear HW
  refine hC.mono ?_; rintro e w1 ⟨rfl, k1⟩
  have a2 := a1.kept k1
  have K1 := k0.trans k1
  have hlt := a2.lt
  clear hC a1 k0 k1
  go_wp2_with (at_make; refine wpList_make_own _ rfl _ _ 36 rfl (w.heap.size + 1) 3 i0 (.int .i64 0) 1 Tryd.underlying36 hi hz0 hz1 .i64 .i64 _ c rfl rfl (by omega) (by rw [hz2]; omega) (by unfold maxLen; omega) (by omega) ?_; intro w2 hown2 hgrow2; have k2 : Kp w1 w2 := (Kp.refl w1).grown hgrow2 (fun k hk => by cases hk); have a3 := a2.kept k2; obtain ⟨c0, c1, c2, c3⟩ := a3.cells)
  have K2 := K1.trans k2
  have hN := next_any f 0 (by omega) w2 (hT.kp K2)
  obtain ⟨e1, e2, e3, e4⟩ := fl_next f 0 (by omega)
  have hown3 : w2.ownsRow (w.heap.size + 1) 3 1 (.slice (some ⟨w1.heap.size, 0, none⟩) 0 c) (fl (nx f 0) f).length (iv (fl (nx f 0) f)) := by
    have e1' : fl (nx f 0) f = [] := e1
    rw [e1']; exact hown2
  have HX : Hid (nx f 0 ≤ 256 ∧ (nx f 0 < 256 → f (nx f 0) = true)) := ⟨e3, e2⟩
  clear e1 e2 e3 e4 hown2 hgrow2 K1 a2 k2 hlt
  obtain ⟨N0, hN0⟩ : ∃ N0, N0 = nx f 0 := ⟨_, rfl⟩
  rw [← hN0] at hN hown3 HX
  clear hN0
  unfold SV at hN
  refine hN.mono ?_; rintro e w3 ⟨rfl, k3⟩
  have a4 := a3.kept k3
  have K3 := K2.trans k3
  have hown4 := k3.own hown3
  clear hN a3 K2 hown3 k3 c0 c1 c2 c3
  go_wp2
  go_loopw [3, 4, 5] (fun v i ok wr => ∃ N : Nat, (N ≤ 256 ∧ (N < 256 → f N = true)) ∧ i = .int .i64 (nI N) ∧ ok = .bool (decide (N < 256)) ∧ wr.ownsRow (w.heap.size + 1) 3 1 v (fl N f).length (iv (fl N f)) ∧ A4 wr w.heap.size (wd f) ∧ Kp w wr) (fun _ i ok _ => meas i ok)
  case atStart => exact ⟨N0, HX.out, rfl, rfl, hown4, a4, K3⟩
  case round =>
    clear hown4 a4 K3 HX
    obtain ⟨N, ⟨hN1, hN2⟩, rfl, rfl, hown, a5, hK⟩ := hrel
    by_cases hlt : N < 256
    · rw [show nI N = (N : Int) from if_pos hlt, decide_eq_true hlt]
      obtain ⟨e1, e2, e3, e4⟩ := fl_next f (N + 1) (by omega)
      have hx := fl_le N f
      rw [show min (N + 1) 256 = N + 1 by omega, show fl (N + 1) f = fl N f ++ [N] from if_pos (hN2 hlt)] at e1
      have hb := a5.lt
      have HL : Hid (fl (nx f (N + 1 : Nat)) f = fl N f ++ [N]) := e1
      have HX : Hid (nx f (N + 1 : Nat) ≤ 256 ∧ (nx f (N + 1 : Nat) < 256 → f (nx f (N + 1 : Nat)) = true) ∧ (nx f (N + 1 : Nat) < 256 → N + 1 ≤ nx f (N + 1 : Nat))) := ⟨e3, e2, e4⟩
      clear e1 e2 e3 e4 hN2
      go_wp2_with (at_builtin; refine wpList_append_own _ rfl _ _ 36 rfl (w.heap.size + 1) 3 i0 (.int .i64 0) 1 8 Tryd.underlying36 hi hz0 hz1 hz2 rfl (by decide) _ _ _ rfl (hown.alloc _) ⟨wr.heap.size, 0, none⟩ 1 1 [.int .i64 (N : Int)] rfl rfl (cell_one_new _ _ _) (by simp [Value.oneCell']) (by unfold maxLen; omega) (by omega) (by simp; omega) ?_; intro v' w5 hown5 hgrow5 _; have K5 : Kp w w5 := (hK.alloc _).grown hgrow5 (fun k hk => by have := own_lt hown k hk; omega); have a6 := (a5.alloc _).grown hgrow5 (fun k hk => by have := own_lt hown k hk; omega); obtain ⟨c0, c1, c2, c3⟩ := a6.cells)
      have hN := next_any f (N + 1 : Nat) (by omega) w5 (hT.kp K5)
      have hown6 : w5.ownsRow (w.heap.size + 1) 3 1 v' (fl (nx f (N + 1 : Nat)) f).length (iv (fl (nx f (N + 1 : Nat)) f)) := by
        rw [HL.out]
        unfold iv
        rw [List.length_append, List.map_append]
        exact hown5
      obtain ⟨M, hM⟩ : ∃ M, M = nx f (N + 1 : Nat) := ⟨_, rfl⟩
      rw [← hM] at hN hown6 HX
      clear HL hM hown5 hown hgrow5 a5 hK hb hx
      unfold SV at hN
      refine hN.mono ?_; rintro e w6 ⟨rfl, k6⟩
      have a7 := a6.kept k6
      have K6 := K5.trans k6
      have hown7 := k6.own hown6
      have HXX := HX.out
      clear hN a6 K5 hown6 k6 c0 c1 c2 c3
      go_wp2
      go_roundw
      case rel => exact ⟨M, ⟨HX.out.1, HX.out.2.1⟩, rfl, rfl, hown7, a7, K6⟩
      case measure =>
        clear hown7 a7 K6
        simp only [meas, intOf]
        by_cases hm : M < 256
        · have := HXX.2.2 hm
          rw [decide_eq_true hm, show nI M = (M : Int) from if_pos hm]
          simp only
          omega
        · rw [decide_eq_false hm]
          simp only
          omega
    · obtain rfl : N = 256 := by omega
      have HI := IntsIn.owned hown
      clear hown hN2
      go_wp2
      go_ret
      exact ⟨_, rfl, HI, hK⟩

end Go.Proofs.YtncdidklgpmefaaDoor
