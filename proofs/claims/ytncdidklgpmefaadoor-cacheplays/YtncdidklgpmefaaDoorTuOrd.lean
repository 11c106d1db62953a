/-
  Contracts of slices.Grow at nil, of slices.Concat at two rows, and of a turn's Order. Conditions: that the rows' cells hold the numbers, that the object lies in memory as TX says.
-/
import Derived.Test.YtncdidklgpmefaaDoorTuTouch
import Derived.Lib.AppendZeros
import Derived.Deep.RegionWith
namespace Go.Proofs.YtncdidklgpmefaaDoor
open Go.RowKit Plain
set_option linter.unusedVariables false

set_option maxRecDepth 100000 in
set_option maxHeartbeats 1000000 in
theorem grow_any (n : Nat) (hn : n ≤ 1000000) (w : World) : Calls Tryd.prog 81 #[.slice none 0 0, .int .i64 n] w fun e w' => ∃ v, e = .returned v ∧ OwnI w' w.heap.size v [] ∧ Kp w w' := by
  by_cases h0 : 0 < n
  · obtain ⟨i0, hi, hz0, hz1, hz2⟩ := info_parts info_int
    have hrun : ∀ ty, (Builtin.append_ #[97, 3] ty #[.slice none 0 0, .int .i64 (n : Int)]).run Tryd.prog w = _ := fun ty => Lib.run_append_nil_zeros w 97 3 ty 3 i0 (.int .i64 0) .i64 .i64 Tryd.underlying97 Tryd.underlying3 hi hz0 n h0 (by omega) (by omega) (by rw [hz2]; omega)
    have hge := grownCap_ge w n 0 3
    have hcm : grownCap w n 0 3 ≤ maxLen := grownCap_le_maxLen w n 0 3 (by unfold maxLen; omega)
    obtain ⟨c, hc⟩ : ∃ c, c = grownCap w n 0 3 := ⟨_, rfl⟩
    rw [← hc] at hrun hge hcm
    obtain ⟨cs, hcs⟩ : ∃ cs, cs = Builtin.zeroCells (Value.int .i64 0).cells n ++ Builtin.zeroCells (Value.int .i64 0).cells (c - n) := ⟨_, rfl⟩
    rw [← hcs] at hrun
    have hsz : cs.size = c * 1 := by rw [hcs, Array.size_append, size_zeroCells, size_zeroCells]; show n * 1 + (c - n) * 1 = c * 1; omega
    have HO : Hid (OwnI (w.drew.alloc (.cells cs 3)) w.heap.size (.slice (some ⟨w.heap.size, 0, none⟩) 0 c) []) := World.ownsRow_made w.drew cs c (Nat.le_refl _) hcm hsz
    have K : Hid (Kp w (w.drew.alloc (.cells cs 3))) := ((Kp.refl w).drew).alloc _
    unfold maxLen at hcm
    clear hcs hc hsz hi hz0 hz1 hz2
    go_enter Tryd.func81, Tryd.ntmps81
    go_wp2_with (at_builtin; refine Lib.wpList_append_run _ rfl _ _ 97 3 rfl _ _ rfl rfl _ _ (hrun _) ?_)
    go_ret
    exact ⟨_, rfl, HO.out, K.out⟩
  · obtain rfl : n = 0 := by omega
    go_enter Tryd.func81, Tryd.ntmps81
    go_wp2
    go_ret
    exact ⟨_, rfl, OwnI.nil _ _, Kp.refl w⟩

set_option maxRecDepth 100000 in
set_option maxHeartbeats 2000000 in
theorem concat_any (g : Nat) (v1 v2 : Value) (l1 l2 : List Int) (w : World) (h1 : InI w v1 l1) (h2 : InI w v2 l2) (hl1 : l1.length ≤ 1000) (hl2 : l2.length ≤ 1000)
    (c0 : w.cell? ⟨g, 0, none⟩ = some v1) (c1 : w.cell? ⟨g, 1, none⟩ = some v2) :
    Calls Tryd.prog 80 #[.slice (some ⟨g, 0, none⟩) 2 2] w fun e w' => ∃ u, e = .returned u ∧ OwnI w' w.heap.size u (l1 ++ l2) ∧ Kp w w' := by
  have H1 := hid h1
  have H2 := hid h2
  obtain ⟨a1, _, p1, rfl, _⟩ := h1
  obtain ⟨a2, _, p2, rfl, _⟩ := h2
  obtain ⟨n1, e1⟩ : ∃ n1, n1 = l1.length := ⟨_, rfl⟩
  obtain ⟨n2, e2⟩ : ∃ n2, n2 = l2.length := ⟨_, rfl⟩
  have E1 := hid e1
  have E2 := hid e2
  rw [← e1] at H1 c0 hl1
  rw [← e2] at H2 c1 hl2
  clear e1 e2
  go_enter Tryd.func80, Tryd.ntmps80
  go_wp2
  go_loopw [3, 5, 11] (fun q _ i wr => ∃ k : Nat, ∃ z : Nat, k ≤ 2 ∧ i = .int .i64 k ∧ q = .int .i64 z ∧ (k = 0 → z = 0) ∧ (k = 1 → z = n1) ∧ (k = 2 → z = n1 + n2) ∧ wr = w) (fun _ _ i _ => 2 - (intOf i).toNat)
  case atStart => exact ⟨0, 0, by omega, rfl, rfl, fun _ => rfl, fun h => absurd h (by omega), fun h => absurd h (by omega), rfl⟩
  case round =>
    obtain ⟨k, z, hk, rfl, rfl, z0, z1, z2, hw⟩ := hrel
    rw [hw]
    clear hw
    have hq : k = 0 ∨ k = 1 ∨ k = 2 := by omega
    rcases hq with rfl | rfl | rfl
    · have hz := z0 rfl
      clear z0 z1 z2
      have hb : z ≤ 3000 := by omega
      have HZ : Hid (z = 0) := hz
      clear hz
      go_wp2
      go_roundw
      case rel => exact ⟨1, z + n1, by omega, rfl, by go_num, fun h => absurd h (by omega), fun _ => by rw [HZ.out]; omega, fun h => absurd h (by omega), trivial⟩
      case measure => simp [intOf]
    · have hz := z1 rfl
      clear z0 z1 z2
      have hb : z ≤ 3000 := by omega
      have HZ : Hid (z = n1) := hz
      clear hz
      go_wp2
      go_roundw
      case rel => exact ⟨2, z + n2, by omega, rfl, by go_num, fun h => absurd h (by omega), fun h => absurd h (by omega), fun _ => by rw [HZ.out], trivial⟩
      case measure => simp [intOf]
    · have hz := z2 rfl
      have hGr := grow_any z (by omega) w
      clear z0 z1 z2 hz
      go_wp2_with fail
      refine hGr.mono ?_; rintro e w1 ⟨u, rfl, ho, k1⟩
      have HO : Hid (OwnI w1 w.heap.size u []) := ho
      have K1 := hid k1
      clear ho k1 hGr
      go_wp2
      go_loopw [6, 8, 27] (fun q _ i wx => ∃ k : Nat, ∃ J : List Int, k ≤ 2 ∧ i = .int .i64 k ∧ Hid (OwnI wx w.heap.size q J) ∧ (k = 0 → J = []) ∧ (k = 1 → J = l1) ∧ (k = 2 → J = l1 ++ l2) ∧ Kp w wx) (fun _ _ i _ => 2 - (intOf i).toNat)
      case atStart => exact ⟨0, [], by omega, rfl, HO, fun _ => rfl, fun h => absurd h (by omega), fun h => absurd h (by omega), K1⟩
      case round =>
        clear HO K1
        obtain ⟨k, J, hk, rfl, HQ, z0, z1, z2, hK⟩ := hrel
        have hq : k = 0 ∨ k = 1 ∨ k = 2 := by omega
        rcases hq with rfl | rfl | rfl
        · obtain rfl := z0 rfl
          have d0 := hK.held c0
          clear z0 z1 z2
          go_wp2_with (at_builtin; refine wpList_append_nums rfl _ _ 97 rfl Tryd.underlying97 w.heap.size _ [] rfl HQ.out _ l1 rfl (H1.out.kept hK) ?c1 hK.size ?_; rotate_left; intro u2 w4 ho2 hg2 hr2)
          case c1 => have := E1.out; simp; omega
          have HO2 : Hid (OwnI w4 w.heap.size u2 l1) := ho2
          have K4 : Kp w w4 := hK.grown hg2 (fun q hq => (HQ.out.lt q hq).1)
          clear ho2 hg2 hr2 hK HQ d0
          go_wp2
          go_roundw
          case rel => exact ⟨1, l1, by omega, rfl, HO2, fun h => absurd h (by omega), fun _ => rfl, fun h => absurd h (by omega), K4⟩
          case measure => simp [intOf]
        · have HJ : Hid (J = l1) := z1 rfl
          have d0 := hK.held c1
          clear z0 z1 z2
          go_wp2_with (at_builtin; refine wpList_append_nums rfl _ _ 97 rfl Tryd.underlying97 w.heap.size _ J rfl HQ.out _ l2 rfl (H2.out.kept hK) ?c1 hK.size ?_; rotate_left; intro u2 w4 ho2 hg2 hr2)
          case c1 => have h1 : n1 = l1.length := E1.out; have h2 : n2 = l2.length := E2.out; have h3 : J = l1 := HJ.out; rw [h3]; omega
          have HO2 : Hid (OwnI w4 w.heap.size u2 (l1 ++ l2)) := by rw [← HJ.out]; exact ho2
          have K4 : Kp w w4 := hK.grown hg2 (fun q hq => (HQ.out.lt q hq).1)
          clear ho2 hg2 hr2 hK HQ d0
          go_wp2
          go_roundw
          case rel => exact ⟨2, l1 ++ l2, by omega, rfl, HO2, fun h => absurd h (by omega), fun h => absurd h (by omega), fun _ => rfl, K4⟩
          case measure => simp [intOf]
        · have HJ : Hid (J = l1 ++ l2) := z2 rfl
          clear z0 z1 z2
          go_wp2
          go_ret
          exact ⟨_, rfl, by have := HQ.out; rwa [HJ.out] at this, hK⟩

end Go.Proofs.YtncdidklgpmefaaDoor
