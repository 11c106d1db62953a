/-
  Contract of spans' Split. Condition: that the part is a number of 64 bits.
-/
import Derived.Test.YtmkmejdbhikomaaSpSplit
namespace Go.Proofs.Ytmkmejdbhikomaa
open Go.RowKit Plain
set_option linter.unusedVariables false

theorem size30 (h : 30 < Try.prog.types.size) : (Try.prog.types[30]'h).size = 2 := by
  obtain ⟨i0, hi, hz0, hz1, hz3⟩ := info_parts elt25.i
  have h1 : Try.prog.types[30]? = some i0 := hi
  obtain ⟨h2, h3⟩ := Array.getElem?_eq_some_iff.1 h1
  rw [h3, hz1]
theorem run_second (p q r s : Value) (w : World) : (Instr.index 62 (.agg #[p, q, r, s]) (.int .i64 1)).run Try.prog w = .ok (.agg #[r, s]) w := by
  obtain ⟨i0, hi, hz0, hz1, hz3⟩ := info_parts elt25.i
  simp [Instr.index, asIntOf, run_underlying Try.underlying62, sizeOf, typeInfo, hi, hz1, part]
theorem wpList_second {w : World} {ops : Array Oper} {rest : List Oper} {o : Oper} {a : Act} {Q : Exit → Act → World → Prop} (hgd : o.guard = none) (x i : Operand) (ho : o.op = Op.index 62 x i) (p q r s : Value) (hx : a.eval x = .agg #[p, q, r, s]) (hi : a.eval i = .int .i64 1)
    (h : wpList Try.prog ops Q rest (a.put o.dst (.agg #[r, s])) w) : wpList Try.prog ops Q (o :: rest) a w := by
  refine wpList_plain hgd fun K hK => ?_
  unfold Oper.wp
  simp [execOp, ho, hx, hi, run_second, Result.andThen]
  exact hK _ _ h
set_option maxRecDepth 100000 in
set_option maxHeartbeats 4000000 in
theorem split_any (s : (Int × Int)) (part : Int) (hp2 : part ≤ 9223372036854775807) (w : World) : Calls Try.prog 28 #[spV s, .int .i64 part] w fun e w' => ∃ u, e = .returned (.tuple #[u, .int .i64 (spE s part)]) ∧ SpIn w' u (spR s part) ∧ Kp w w' := by
  have hG := good1_any s
  obtain ⟨x, y⟩ := s
  unfold spV at hG ⊢
  by_cases hg : gd (x, y) = true
  · rw [hg] at hG
    obtain ⟨h1, h2, h3⟩ := (gd_iff _).1 hg
    simp only [mA] at h1 h2 h3
    by_cases hp : 1 ≤ part
    · have hp0 : ¬ part = 0 := by omega
      have d1 := div_le (show 0 ≤ y - 1 by omega) hp
      have d2 := div_le h1 hp
      have hN := spN_ge (x, y) part h2 hp
      have HN : Hid (spN (x, y) part = (y - 1) / part - x / part + 1) := rfl
      obtain ⟨A, hA⟩ : ∃ A, (y - 1) / part = A := ⟨_, rfl⟩
      obtain ⟨B, hB⟩ : ∃ B, x / part = B := ⟨_, rfl⟩
      rw [hA] at d1 HN
      rw [hB] at d2 HN
      by_cases hbig : 65536 < spN (x, y) part
      · obtain ⟨s1, s2⟩ := sp_three ⟨hg, hp⟩ hbig
        rw [s1, s2]
        rw [HN.out] at hbig hN
        clear s1 s2 hg HN
        go_enter Try.func28, Try.ntmps28
        go_wp2_with fail
        refine (hG _).mono ?_; rintro e w1 ⟨rfl, k1⟩
        have c0 : w1.cell? ⟨w.heap.size, 0, none⟩ = some (.int .i64 x) := k1.held (by simp)
        have c1 : w1.cell? ⟨w.heap.size, 1, none⟩ = some (.int .i64 y) := k1.held (by simp)
        have K1 : Hid (Kp w w1) := ((Kp.refl w).alloc _).trans k1
        clear hG k1
        go_wp2_with fail
        go_quiet (fail)
        go_wp2
        go_ret2
        exact ⟨_, rfl, SpIn.nil _, K1.out.drewN _⟩
      · obtain ⟨s1, s2⟩ := sp_zero ⟨hg, hp⟩ hbig
        rw [s1, s2]
        rw [HN.out] at hbig hN
        clear s1 s2 hg HN
        simp only
        obtain ⟨F, hF⟩ : ∃ F, F = (y - x).toNat := ⟨_, rfl⟩
        obtain ⟨T, hT⟩ : ∃ T, T = spl part y (y - x).toNat x := ⟨_, rfl⟩
        have HT : Hid (T = spl part y (y - x).toNat x) := hT
        rw [← hT]
        have hFy : (F : Int) = y - x := by omega
        have HFy : Hid ((F : Int) = y - x) := hFy
        clear hF hT hFy
        obtain ⟨N, hNN⟩ : ∃ N : Nat, (N : Int) = A - B + 1 := ⟨(A - B + 1).toNat, by omega⟩
        have HNN : Hid ((N : Int) = A - B + 1) := hNN
        have hNb : N ≤ 65536 := by omega
        clear hNN
        obtain ⟨i0, hi, hz0, hz1, hz3⟩ := info_parts elt25.i
        have hG2 := good1_any
        unfold spV at hG2
        have hL := less_any
        unfold spV lsV at hL
        have hmin := @imin Try.prog
        go_enter Try.func28, Try.ntmps28
        go_wp2_with fail
        refine (hG _).mono ?_; rintro e w1 ⟨rfl, k1⟩
        have hB1 : Bx w1 w.heap.size (x, y) := (Bx.new w (x, y)).kept k1
        have c0 := hB1.c0
        have c1 := hB1.c1
        simp only at c0 c1
        have K1 : Hid (Kp w w1) := ((Kp.refl w).alloc _).trans k1
        have HB1 : Hid (Bx w1 w.heap.size (x, y)) := hB1
        clear hG k1 hB1
        go_wp2_with fail
        go_quiet (fail)
        obtain ⟨W, hW⟩ : ∃ W, W = w1.drewN nq := ⟨_, rfl⟩
        have kW : Kp w1 W := by rw [hW]; exact (Kp.refl w1).drewN _
        rw [← hW]
        have KW : Hid (Kp w W) := K1.out.trans kW
        have HBW : Hid (Bx W w.heap.size (x, y)) := HB1.out.kept kW
        have hb0 : w.heap.size < W.heap.size := HBW.out.lt
        clear hW kW c0 c1 K1 hA hB HB1
        go_wp2_with (at_make; refine wpList_make_own _ rfl _ _ 25 rfl (w.heap.size + 1) 30 i0 (.agg #[.int .i64 0, .int .i64 0]) 2 Try.underlying25 hi hz0 hz1 .i64 .i64 _ N rfl rfl HNN.out.symm (by rw [hz3]; omega) (by unfold maxLen; omega) (by omega) ?_; intro w3 hown3 hgrow3)
        have k3 : Kp W w3 := (Kp.refl W).grown hgrow3 (fun k hk => by cases hk)
        have K3 : Hid (Kp w w3) := KW.out.trans k3
        have HB3 : Hid (Bx w3 w.heap.size (x, y)) := HBW.out.kept k3
        have HO3 : Hid (Own w3 (w.heap.size + 1) 30 (.slice (some ⟨W.heap.size, 0, none⟩) 0 N) []) := hown3
        clear hown3 hgrow3 hi hz0 hz1 hz3 k3 KW HBW d1 d2 hN hbig hNb HNN hb0
        go_loopw [7] (fun q wr => ∃ c : Int, ∃ J : List (Int × Int), x ≤ c ∧ c ≤ y ∧ (J.length : Int) ≤ c - x ∧ Hid (Own wr (w.heap.size + 1) 30 q J) ∧ Hid (Bx wr w.heap.size (c, y)) ∧ Hid (T = J ++ spl part y ((y - x).toNat - J.length) c) ∧ Kp w wr) (fun q _ => F - lenV q)
        case atStart => exact ⟨x, [], by omega, by omega, by simp, HO3, HB3, HT, K3⟩
        case round =>
          clear HO3 HB3 K3
          obtain ⟨c, J, hc1, hc2, hJl, HQ, HBk, HE, hK⟩ := hrel
          have q0 := HBk.out.c0
          have q1 := HBk.out.c1
          have hbw := HBk.out.lt
          simp only at q0 q1
          by_cases hlt : c < y
          · obtain ⟨e1, e2, e3, e4⟩ := part_end (show 0 ≤ c by omega) (by omega) hp hp2
            have HS : Hid (T = (J ++ [(c, min y (c - c % part + part))]) ++ spl part y ((y - x).toNat - (J.length + 1)) (min y (c - c % part + part))) := by
              have h := HE.out
              rw [HT.out] at h
              have h5 := spl_step hJl hlt h
              rw [← HT.out] at h5
              exact h5
            have hG3 := hG2 (c, y) wr
            rw [show gd (c, y) = true from (gd_iff _).2 ⟨by show 0 ≤ c; omega, hlt, h3⟩] at hG3
            simp only at hG3
            obtain ⟨r, hr⟩ : ∃ r, c % part = r := ⟨_, rfl⟩
            rw [hr] at e1 e2 e3 e4 HS
            clear HE hG2
            obtain ⟨z, hz⟩ : ∃ z, z = min y (c - r + part) := ⟨_, rfl⟩
            have hz1 : c < z := by omega
            have hz2 : z ≤ y := by omega
            have HZ : Hid (z = min y (c - r + part)) := hz
            rw [← hz] at HS
            clear hz
            go_wp2_with fail
            refine hG3.mono ?_; rintro e W1 ⟨rfl, l1⟩
            have s0 := l1.held q0
            have s1 := l1.held q1
            have L1 : Hid (Kp wr W1) := l1
            clear hG3 l1 q0 q1
            go_wp2_with fail
            go_quiet (fail)
            obtain ⟨W2, hW⟩ : ∃ W2, W2 = W1.drewN nq := ⟨_, rfl⟩
            have kW : Kp W1 W2 := by rw [hW]; exact (Kp.refl W1).drewN _
            rw [← hW]
            have t0 := kW.held s0
            have t1 := kW.held s1
            have L2 : Hid (Kp wr W2) := L1.out.trans kW
            have hbW : wr.heap.size ≤ W2.heap.size := L2.out.size
            clear hW kW s0 s1 L1
            go_wp2_with (at_builtin; refine wpList_append_sp rfl _ _ 25 rfl (w.heap.size + 1) 30 elt25 _ J rfl (((HQ.out.kept L2.out : Own W2 (w.heap.size + 1) 30 _ J).alloc _).alloc _) _ [(c, min y (c - r + part))] rfl (SpIn.lit2 _ (c, min y (c - r + part)) _ _ (by simp)) ?c2 ?c1 ?_; rotate_left; rotate_left; intro u2 w4 ho2 hg2 hr2; have hrow : ∀ q, _ = some q → w.heap.size + 1 ≤ q ∧ q < wr.heap.size := fun q hq => HQ.out.lt q hq; have hB4 : Bx w4 w.heap.size (c, y) := (HBk.out.kept ((L2.out.alloc _).alloc _)).grown hg2 (fun q hq => by have := hrow q hq; omega); have hP4 : Bx w4 W2.heap.size (c, min y (c - r + part)) := ((Bx.new W2 (c, min y (c - r + part))).kept ((Kp.refl _).alloc _)).grown hg2 (fun q hq => by have := hrow q hq; omega); have p0 := hB4.c0; have p1 := hB4.c1; have p2 := hP4.c0; have p3 := hP4.c1; simp only at p0 p1 p2 p3; have K4 : Hid (Kp w w4) := ((hK.trans L2.out).alloc _ |>.alloc _).grown hg2 (fun q hq => by have := hrow q hq; omega); have HO4 : Hid (Own w4 (w.heap.size + 1) 30 u2 (J ++ [(c, z)])) := (by rw [HZ.out]; exact ho2); have HB4 : Hid (Bx w4 w.heap.size (c, y)) := hB4; have hm1 : min y (c - r + part) = z := HZ.out.symm; rw [hm1] at p3; have hL1 := hL (c, y) (c, z); simp only at hL1; rw [show max c z = z by omega] at hL1; have hlenq := lenV_sp HQ.out.sp; have HLQ : Hid (lenV _ = J.length) := hlenq; clear hg2 hr2 ho2 hB4 hP4 hrow)
            case c2 => (try simp); omega
            case c1 => (try simp); omega
            clear HBk HQ hL t0 t1 hlenq hm1 HZ
            go_wp2_with fail
            refine (hL1 _).mono ?_; rintro e W5 ⟨rfl, l5⟩
            have hB5 := HB4.out.kept l5
            have HO5 : Hid (Own W5 (w.heap.size + 1) 30 u2 (J ++ [(c, z)])) := HO4.out.kept l5
            have K5 : Hid (Kp w W5) := K4.out.trans l5
            have u0 := hB5.c0
            have u1 := hB5.c1
            have uz := hB5.z
            simp only at u0 u1
            have HB5 : Hid (Bx W5 w.heap.size (c, y)) := hB5
            have HLU : Hid (lenV u2 = J.length + 1) := by have h5 := lenV_sp HO4.out.sp; rw [List.length_append] at h5; exact h5
            clear hL1 l5 HB4 HO4 K4 hB5 p0 p1 p2 p3
            go_wp2_with (refine wpList_second rfl _ _ rfl _ _ _ _ rfl rfl ?_)
            go_roundw
            case rel => exact ⟨z, J ++ [(c, z)], by omega, hz2, by simp; omega, HO5.out.put2 (by omega) (z, y), HB5.out.put (z, y), by rw [List.length_append]; exact HS, K5.out.put2 (by omega) (z, y)⟩
            case measure =>
              have h5 := HLQ.out
              have h6 := HLU.out
              have h7 := HFy.out
              show F - lenV u2 < F - lenV _
              rw [h6, h5]
              omega
          · have HFin : Hid (T = J) := by rw [HE.out, spl_end _ _ _ _ hlt]; exact List.append_nil J
            have hG3 := hG2 (c, y) wr
            rw [show gd (c, y) = false from by rw [Bool.eq_false_iff, ne_eq, gd_iff]; exact fun h => hlt h.2.1] at hG3
            simp only at hG3
            clear hG2 hL
            go_wp2_with fail
            refine hG3.mono ?_; rintro e W1 ⟨rfl, l1⟩
            have HO5 : Hid (Own W1 (w.heap.size + 1) 30 _ J) := HQ.out.kept l1
            have K5 : Hid (Kp w W1) := hK.trans l1
            clear hG3 l1 q0 q1
            go_wp2
            go_ret2
            have HO6 := HO5.out
            rw [← HFin.out] at HO6
            exact ⟨_, rfl, HO6.sp, K5.out⟩
    · obtain ⟨s1, s2⟩ := sp_two (s := (x, y)) (part := part) (fun h => hp h.2)
      rw [s1, s2]
      clear s1 s2 hg
      go_enter Try.func28, Try.ntmps28
      go_wp2_with fail
      refine (hG _).mono ?_; rintro e w1 ⟨rfl, k1⟩
      have K1 : Kp w w1 := ((Kp.refl w).alloc _).trans k1
      clear hG k1
      go_wp2
      go_ret2
      exact ⟨_, rfl, SpIn.nil _, K1⟩
  · obtain ⟨s1, s2⟩ := sp_two (s := (x, y)) (part := part) (fun h => hg h.1)
    rw [s1, s2]
    rw [Bool.not_eq_true] at hg
    rw [hg] at hG
    clear s1 s2 hg
    go_enter Try.func28, Try.ntmps28
    go_wp2_with fail
    refine (hG _).mono ?_; rintro e w1 ⟨rfl, k1⟩
    have K1 : Kp w w1 := ((Kp.refl w).alloc _).trans k1
    clear hG k1
    go_wp2
    go_ret2
    exact ⟨_, rfl, SpIn.nil _, K1⟩

end Go.Proofs.Ytmkmejdbhikomaa
