/-
  Contracts of slices.Grow at nil and of slices.Concat at three lists of spans. Conditions: that the lists' cells hold the spans.
-/
import Derived.Test.YtdfdoinhkjoalaaSpBox
import Derived.Lib.AppendZeros
namespace Go.Proofs.Ytdfdoinhkjoalaa
open Go.RowKit Plain
set_option linter.unusedVariables false

set_option maxRecDepth 100000 in
set_option maxHeartbeats 1000000 in
theorem grow_any (n : Nat) (h0 : 0 < n) (hn : n ≤ 1000000) (w : World) : Calls Try.prog 52 #[.slice none 0 0, .int .i64 n] w fun e w' => ∃ v, e = .returned v ∧ Own w' w.heap.size 76 v [] ∧ Kp w w' := by
  obtain ⟨i0, hi, hz0, hz1, hz2⟩ := info_parts elt26.i
  have hrun : ∀ ty, (Builtin.append_ #[51, 3] ty #[.slice none 0 0, .int .i64 (n : Int)]).run Try.prog w = _ := fun ty => Lib.run_append_nil_zeros w 51 3 ty 76 i0 (.agg #[.int .i64 0, .int .i64 0]) .i64 .i64 elt26.u Try.underlying3 hi hz0 n h0 (by omega) (by omega) (by rw [hz2]; omega)
  have hge := grownCap_ge w n 0 76
  have hcm : grownCap w n 0 76 ≤ maxLen := grownCap_le_maxLen w n 0 76 (by unfold maxLen; omega)
  obtain ⟨c, hc⟩ : ∃ c, c = grownCap w n 0 76 := ⟨_, rfl⟩
  rw [← hc] at hrun hge hcm
  obtain ⟨cs, hcs⟩ : ∃ cs, cs = Builtin.zeroCells (Value.agg #[.int .i64 0, .int .i64 0]).cells n ++ Builtin.zeroCells (Value.agg #[.int .i64 0, .int .i64 0]).cells (c - n) := ⟨_, rfl⟩
  rw [← hcs] at hrun
  have hsz : cs.size = c * 2 := by rw [hcs, Array.size_append, size_zeroCells, size_zeroCells]; show n * 2 + (c - n) * 2 = c * 2; omega
  have HO : Hid (Own (w.drew.alloc (.cells cs 76)) w.heap.size 76 (.slice (some ⟨w.heap.size, 0, none⟩) 0 c) []) := World.ownsRow_made w.drew cs c (Nat.le_refl _) hcm hsz
  have K : Hid (Kp w (w.drew.alloc (.cells cs 76))) := ((Kp.refl w).drew).alloc _
  unfold maxLen at hcm
  clear hcs hc hsz hi hz0 hz1 hz2
  go_enter Try.func52, Try.ntmps52
  go_wp2_with (at_builtin; refine Lib.wpList_append_run _ rfl _ _ 51 3 rfl _ _ rfl rfl _ _ (hrun _) ?_)
  go_ret
  exact ⟨_, rfl, HO.out, K.out⟩

set_option maxRecDepth 100000 in
set_option maxHeartbeats 2000000 in
theorem concat_any (g : Nat) (v1 v2 v3 : Value) (l1 l2 l3 : List (Int × Int)) (w : World) (h1 : SpIn w v1 l1) (h2 : SpIn w v2 l2) (h3 : SpIn w v3 l3) (hl1 : l1.length ≤ 1000) (hl2 : l2.length = 1) (hl3 : l3.length ≤ 1000)
    (c0 : w.cell? ⟨g, 0, none⟩ = some v1) (c1 : w.cell? ⟨g, 1, none⟩ = some v2) (c2 : w.cell? ⟨g, 2, none⟩ = some v3) :
    Calls Try.prog 47 #[.slice (some ⟨g, 0, none⟩) 3 3] w fun e w' => ∃ u, e = .returned u ∧ Own w' w.heap.size 76 u (l1 ++ (l2 ++ l3)) ∧ Kp w w' := by
  have H1 : Hid (SpIn w v1 l1) := h1
  have H2 : Hid (SpIn w v2 l2) := h2
  have H3 : Hid (SpIn w v3 l3) := h3
  obtain ⟨a1, _, _, p1, rfl, _⟩ := h1
  obtain ⟨a2, _, _, p2, rfl, _⟩ := h2
  obtain ⟨a3, _, _, p3, rfl, _⟩ := h3
  obtain ⟨n1, e1⟩ : ∃ n1, n1 = l1.length := ⟨_, rfl⟩
  obtain ⟨n2, e2⟩ : ∃ n2, n2 = l2.length := ⟨_, rfl⟩
  obtain ⟨n3, e3⟩ : ∃ n3, n3 = l3.length := ⟨_, rfl⟩
  have E1 : Hid (n1 = l1.length) := e1
  have E2 : Hid (n2 = l2.length) := e2
  have E3 : Hid (n3 = l3.length) := e3
  rw [← e1] at H1 c0 hl1
  rw [← e2] at H2 c1 hl2
  rw [← e3] at H3 c2 hl3
  have hl2a : 0 < n2 := by omega
  have hl2b : n2 ≤ 1000 := by omega
  clear e1 e2 e3 hl2
  go_enter Try.func47, Try.ntmps47
  go_wp2
  go_loopw [11, 3] (fun i q wr => ∃ k : Nat, ∃ z : Nat, k ≤ 3 ∧ i = .int .i64 k ∧ q = .int .i64 z ∧ (k = 0 → z = 0) ∧ (k = 1 → z = n1) ∧ (k = 2 → z = n1 + n2) ∧ (k = 3 → z = n1 + n2 + n3) ∧ wr = w) (fun i _ _ => 3 - (intOf i).toNat)
  case atStart => exact ⟨0, 0, by omega, rfl, rfl, fun _ => rfl, fun h => absurd h (by omega), fun h => absurd h (by omega), fun h => absurd h (by omega), rfl⟩
  case round =>
    obtain ⟨k, z, hk, rfl, rfl, z0, z1, z2, z3, hw⟩ := hrel
    rw [hw]
    clear hw
    have hq : k = 0 ∨ k = 1 ∨ k = 2 ∨ k = 3 := by omega
    rcases hq with rfl | rfl | rfl | rfl
    · have hz := z0 rfl
      clear z0 z1 z2 z3
      have hb : z ≤ 3000 := by omega
      have HZ : Hid (z = 0) := hz
      clear hz
      go_wp2
      go_roundw
      case rel => exact ⟨1, z + n1, by omega, rfl, by go_num, fun h => absurd h (by omega), fun _ => by rw [HZ.out]; omega, fun h => absurd h (by omega), fun h => absurd h (by omega), trivial⟩
      case measure => simp [intOf]
    · have hz := z1 rfl
      clear z0 z1 z2 z3
      have hb : z ≤ 3000 := by omega
      have HZ : Hid (z = n1) := hz
      clear hz
      go_wp2
      go_roundw
      case rel => exact ⟨2, z + n2, by omega, rfl, by go_num, fun h => absurd h (by omega), fun h => absurd h (by omega), fun _ => by rw [HZ.out], fun h => absurd h (by omega), trivial⟩
      case measure => simp [intOf]
    · have hz := z2 rfl
      clear z0 z1 z2 z3
      have hb : z ≤ 3000 := by omega
      have HZ : Hid (z = n1 + n2) := hz
      clear hz
      go_wp2
      go_roundw
      case rel => exact ⟨3, z + n3, by omega, rfl, by go_num, fun h => absurd h (by omega), fun h => absurd h (by omega), fun h => absurd h (by omega), fun _ => by rw [HZ.out], trivial⟩
      case measure => simp [intOf]
    · have hz := z3 rfl
      have hGr := grow_any z (by omega) (by omega) w
      clear z0 z1 z2 z3 hz
      go_wp2_with fail
      refine hGr.mono ?_; rintro e w1 ⟨u, rfl, ho, k1⟩
      have HO : Hid (Own w1 w.heap.size 76 u []) := ho
      have K1 : Hid (Kp w w1) := k1
      clear ho k1 hGr
      go_wp2
      go_loopw [27, 6] (fun i q wx => ∃ k : Nat, ∃ J : List (Int × Int), k ≤ 3 ∧ i = .int .i64 k ∧ Hid (Own wx w.heap.size 76 q J) ∧ (k = 0 → J = []) ∧ (k = 1 → J = l1) ∧ (k = 2 → J = l1 ++ l2) ∧ (k = 3 → J = l1 ++ (l2 ++ l3)) ∧ Kp w wx) (fun i _ _ => 3 - (intOf i).toNat)
      case atStart => exact ⟨0, [], by omega, rfl, HO, fun _ => rfl, fun h => absurd h (by omega), fun h => absurd h (by omega), fun h => absurd h (by omega), K1⟩
      case round =>
        clear HO K1
        obtain ⟨k, J, hk, rfl, HQ, z0, z1, z2, z3, hK⟩ := hrel
        have hq : k = 0 ∨ k = 1 ∨ k = 2 ∨ k = 3 := by omega
        rcases hq with rfl | rfl | rfl | rfl
        · obtain rfl := z0 rfl
          have d0 := hK.held c0
          clear z0 z1 z2 z3
          go_wp2_with (at_builtin; refine wpList_append_sp rfl _ _ 51 rfl w.heap.size 76 elt26 _ [] rfl HQ.out _ l1 rfl (H1.out.kept hK) ?c1 hK.size ?_; rotate_left; intro u2 w4 ho2 hg2 hr2)
          case c1 => have := E1.out; simp; omega
          have HO2 : Hid (Own w4 w.heap.size 76 u2 l1) := ho2
          have K4 : Kp w w4 := hK.grown hg2 (fun q hq => own_lt HQ.out q hq)
          clear ho2 hg2 hr2 hK HQ d0
          go_wp2
          go_roundw
          case rel => exact ⟨1, l1, by omega, rfl, HO2, fun h => absurd h (by omega), fun _ => rfl, fun h => absurd h (by omega), fun h => absurd h (by omega), K4⟩
          case measure => simp [intOf]
        · have HJ : Hid (J = l1) := z1 rfl
          have d0 := hK.held c1
          clear z0 z1 z2 z3
          go_wp2_with (at_builtin; refine wpList_append_sp rfl _ _ 51 rfl w.heap.size 76 elt26 _ J rfl HQ.out _ l2 rfl (H2.out.kept hK) ?c1 hK.size ?_; rotate_left; intro u2 w4 ho2 hg2 hr2)
          case c1 => have h1 : n1 = l1.length := E1.out; have h2 : n2 = l2.length := E2.out; have h3 : J = l1 := HJ.out; rw [h3]; omega
          have HO2 : Hid (Own w4 w.heap.size 76 u2 (l1 ++ l2)) := by rw [← HJ.out]; exact ho2
          have K4 : Kp w w4 := hK.grown hg2 (fun q hq => own_lt HQ.out q hq)
          clear ho2 hg2 hr2 hK HQ d0
          go_wp2
          go_roundw
          case rel => exact ⟨2, l1 ++ l2, by omega, rfl, HO2, fun h => absurd h (by omega), fun h => absurd h (by omega), fun _ => rfl, fun h => absurd h (by omega), K4⟩
          case measure => simp [intOf]
        · have HJ : Hid (J = l1 ++ l2) := z2 rfl
          have d0 := hK.held c2
          clear z0 z1 z2 z3
          go_wp2_with (at_builtin; refine wpList_append_sp rfl _ _ 51 rfl w.heap.size 76 elt26 _ J rfl HQ.out _ l3 rfl (H3.out.kept hK) ?c1 hK.size ?_; rotate_left; intro u2 w4 ho2 hg2 hr2)
          case c1 => have h1 : n1 = l1.length := E1.out; have h2 : n2 = l2.length := E2.out; have h3 : n3 = l3.length := E3.out; have h4 : J = l1 ++ l2 := HJ.out; rw [h4, List.length_append]; omega
          have HO2 : Hid (Own w4 w.heap.size 76 u2 (l1 ++ (l2 ++ l3))) := by rw [← List.append_assoc, ← HJ.out]; exact ho2
          have K4 : Kp w w4 := hK.grown hg2 (fun q hq => own_lt HQ.out q hq)
          clear ho2 hg2 hr2 hK HQ d0
          go_wp2
          go_roundw
          case rel => exact ⟨3, l1 ++ (l2 ++ l3), by omega, rfl, HO2, fun h => absurd h (by omega), fun h => absurd h (by omega), fun h => absurd h (by omega), fun _ => rfl, K4⟩
          case measure => simp [intOf]
        · have HJ : Hid (J = l1 ++ (l2 ++ l3)) := z3 rfl
          clear z0 z1 z2 z3
          go_wp2
          go_ret
          exact ⟨_, rfl, by have := HQ.out; rwa [HJ.out] at this, hK⟩

end Go.Proofs.Ytdfdoinhkjoalaa
