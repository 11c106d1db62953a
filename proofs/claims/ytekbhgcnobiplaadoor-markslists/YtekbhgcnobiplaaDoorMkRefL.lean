/-
  Contracts of the document's Next, List and Runs: the next number of a set, all of them, the runs. No condition.
-/
import Derived.Test.YtekbhgcnobiplaaDoorMkRef
import Derived.Test.YtekbhgcnobiplaaDoorMkRun
namespace Go.Proofs.YtekbhgcnobiplaaDoor
open Go.RowKit Plain
set_option linter.unusedVariables false

set_option maxRecDepth 100000 in
set_option maxHeartbeats 4000000 in
theorem rnext_any (f : Nat → Bool) (a : Int) (w : World) : Calls Tryd.prog 27 #[SV f, .int .i64 a] w fun e w' => e = .returned (.tuple #[.int .i64 (nI (nx f a)), .bool (decide (nx f a < 256))]) ∧ Kp w w' := by
  obtain ⟨w0, hw0⟩ : ∃ w0, w0 = w.alloc (.cells (w4 (wd f)) 24) := ⟨_, rfl⟩
  have a1 : A4 w0 w.heap.size (wd f) := by rw [hw0]; exact A4.new w _ _
  have k0 : Kp w w0 := by rw [hw0]; exact (Kp.refl w).alloc _
  have HW : Hid (w0 = w.alloc (.cells (w4 (wd f)) 24)) := hw0
  clear hw0
  have hH := rhas_in f
  unfold nx
  obtain ⟨g, hg⟩ : ∃ g, g = lessF f (upF a) := ⟨_, rfl⟩
  rw [← hg]
  have HG : Hid (∀ i, g i = (f i && decide (a ≤ (i : Int)))) := fun i => by
    rw [hg]; unfold lessF upF
    congr 1
    rw [← decide_not]
    exact decide_eq_decide.2 (by omega)
  clear hg
  unfold SV at hH ⊢
  go_enter Tryd.func27, Tryd.ntmps27
  go_wp2
  rw [show w.alloc (.cells #[.int .u64 ((wd f 0 : Nat) : Int), .int .u64 ((wd f 1 : Nat) : Int), .int .u64 ((wd f 2 : Nat) : Int), .int .u64 ((wd f 3 : Nat) : Int)] 24) = w0 from HW.out.symm]
  clear HW
  go_loopw [6] (fun i wr => ∃ k : Nat, k ≤ 256 ∧ i = .int .i64 k ∧ (∀ j, j < k → g j = false) ∧ A4 wr w.heap.size (wd f) ∧ Kp w wr) (fun i _ => 256 - (intOf i).toNat)
  case atStart => exact ⟨0, by omega, rfl, fun j hj => absurd hj (by omega), a1, k0⟩
  case round =>
    clear a1 k0
    obtain ⟨k, hk, rfl, hG, h3, hK⟩ := hrel
    by_cases hlt : k < 256
    · obtain ⟨c0, c1, c2, c3⟩ := h3.cells
      have hN := hH k hlt wr
      have hgk := HG.out k
      have HZ : Hid (∀ W, Kp wr W → A4 W w.heap.size (wd f) ∧ Kp w W) := fun W hw => ⟨h3.kept hw, hK.trans hw⟩
      clear h3 hK hH
      cases hf : f k with
      | true =>
        rw [hf] at hN hgk
        by_cases ha : a ≤ (k : Int)
        · have HF : Hid (fs 256 g = k) := fs_is 256 g k hlt (by rw [hgk, decide_eq_true ha]; rfl) hG
          clear hG hgk hf
          go_wp2_with fail
          refine hN.mono ?_; rintro e W ⟨rfl, kW⟩
          clear hN
          go_wp2
          go_ret2
          exact ⟨by rw [HF.out]; exact tup_int (by unfold nI; rw [if_pos hlt]) (by simp; omega), (HZ.out W kW).2⟩
        · have ha' : (k : Int) < a := by omega
          have HF : Hid (∀ j, j < k + 1 → g j = false) := fun j hj => by
            by_cases e : j = k
            · subst e; rw [hgk, decide_eq_false ha]; rfl
            · exact hG j (by omega)
          clear hG hgk hf ha
          go_wp2_with fail
          refine hN.mono ?_; rintro e W ⟨rfl, kW⟩
          clear hN
          go_wp2
          go_roundw
          case rel => exact ⟨k + 1, by omega, by go_num, HF.out, HZ.out W kW⟩
          case measure => simp [intOf]; omega
      | false =>
        rw [hf] at hN hgk
        have HF : Hid (∀ j, j < k + 1 → g j = false) := fun j hj => by
          by_cases e : j = k
          · subst e; rw [hgk]; rfl
          · exact hG j (by omega)
        clear hG hgk hf
        go_wp2_with fail
        refine hN.mono ?_; rintro e W ⟨rfl, kW⟩
        clear hN
        go_wp2
        go_roundw
        case rel => exact ⟨k + 1, by omega, by go_num, HF.out, HZ.out W kW⟩
        case measure => simp [intOf]; omega
    · obtain rfl : k = 256 := by omega
      have HF : Hid (fs 256 g = 256) := fs_none 256 g hG
      clear hG h3
      go_wp2
      go_ret2
      exact ⟨by rw [HF.out]; exact tup_int rfl rfl, hK⟩

set_option maxRecDepth 100000 in
set_option maxHeartbeats 4000000 in
theorem rlist_any (f : Nat → Bool) (w : World) : Calls Tryd.prog 18 #[SV f] w fun e w' => ∃ v, e = .returned v ∧ IntsIn w' v ((fl 256 f).map Int.ofNat) ∧ Kp w w' := by
  obtain ⟨i0, hi, hz0, hz1, hz2⟩ := info_parts info_int
  obtain ⟨w0, hw0⟩ : ∃ w0, w0 = w.alloc (.cells (w4 (wd f)) 24) := ⟨_, rfl⟩
  have a1 : A4 w0 w.heap.size (wd f) := by rw [hw0]; exact A4.new w _ _
  have k0 : Kp w w0 := by rw [hw0]; exact (Kp.refl w).alloc _
  have HW : Hid (w0 = w.alloc (.cells (w4 (wd f)) 24)) := hw0
  clear hw0
  have hH := rhas_in f
  unfold SV at hH ⊢
  go_enter Tryd.func18, Tryd.ntmps18
  go_wp2
  rw [show w.alloc (.cells #[.int .u64 ((wd f 0 : Nat) : Int), .int .u64 ((wd f 1 : Nat) : Int), .int .u64 ((wd f 2 : Nat) : Int), .int .u64 ((wd f 3 : Nat) : Int)] 24) = w0 from HW.out.symm]
  clear HW
  go_loopw [3, 4] (fun v i wr => ∃ k : Nat, k ≤ 256 ∧ i = .int .i64 k ∧ wr.ownsRow (w.heap.size + 1) 3 1 v (fl k f).length (iv (fl k f)) ∧ A4 wr w.heap.size (wd f) ∧ Kp w wr) (fun _ i _ => 256 - (intOf i).toNat)
  case atStart => exact ⟨0, by omega, rfl, World.ownsRow_nil _ _ _ _, a1, k0⟩
  case round =>
    clear a1 k0
    obtain ⟨k, hk, rfl, hown, a5, hK⟩ := hrel
    by_cases hlt : k < 256
    · obtain ⟨c0, c1, c2, c3⟩ := a5.cells
      have hN := hH k hlt wr
      have hx := fl_le k f
      have HZ : Hid (∀ W, Kp wr W → W.ownsRow (w.heap.size + 1) 3 1 u3 (fl k f).length (iv (fl k f)) ∧ A4 W w.heap.size (wd f) ∧ Kp w W) := fun W hw => ⟨hw.own hown, a5.kept hw, hK.trans hw⟩
      clear hown a5 hK hH
      cases hf : f k with
      | true =>
        have HL : Hid (fl (k + 1) f = fl k f ++ [k]) := if_pos hf
        rw [hf] at hN
        clear hf
        go_wp2_with fail
        refine hN.mono ?_; rintro e W ⟨rfl, kW⟩
        obtain ⟨hown, a5, hK⟩ := HZ.out W kW
        have hb := a5.lt
        clear hN HZ c0 c1 c2 c3 kW
        go_wp2_with (at_builtin; refine wpList_append_own _ rfl _ _ 22 rfl (w.heap.size + 1) 3 i0 (.int .i64 0) 1 8 Tryd.underlying22 hi hz0 hz1 hz2 rfl (by decide) _ _ _ rfl (hown.alloc _) ⟨W.heap.size, 0, none⟩ 1 1 [.int .i64 (k : Int)] rfl rfl (cell_one_new _ _ _) (by simp [Value.oneCell']) (by unfold maxLen; omega) (by omega) (by simp; omega) ?_; intro v' w5 hown5 hgrow5 _)
        have K5 : Kp w w5 := (hK.alloc _).grown hgrow5 (fun k hk => by have := own_lt hown k hk; omega)
        have a6 := (a5.alloc _).grown hgrow5 (fun k hk => by have := own_lt hown k hk; omega)
        have hown6 : w5.ownsRow (w.heap.size + 1) 3 1 v' (fl (k + 1) f).length (iv (fl (k + 1) f)) := by
          rw [HL.out]
          unfold iv
          rw [List.length_append, List.map_append]
          exact hown5
        go_roundw
        case rel => exact ⟨k + 1, by omega, by go_num, hown6, a6, K5⟩
        case measure => simp [intOf]; omega
      | false =>
        have HL : Hid (fl (k + 1) f = fl k f) := if_neg (by rw [hf]; simp)
        rw [hf] at hN
        clear hf
        go_wp2_with fail
        refine hN.mono ?_; rintro e W ⟨rfl, kW⟩
        clear hN
        go_wp2
        go_roundw
        case rel => exact ⟨k + 1, by omega, by go_num, by rw [HL.out]; exact (HZ.out W kW).1, (HZ.out W kW).2⟩
        case measure => simp [intOf]; omega
    · obtain rfl : k = 256 := by omega
      have HI := IntsIn.owned hown
      clear hown
      go_wp2
      go_ret
      exact ⟨_, rfl, HI, hK⟩

end Go.Proofs.YtekbhgcnobiplaaDoor
