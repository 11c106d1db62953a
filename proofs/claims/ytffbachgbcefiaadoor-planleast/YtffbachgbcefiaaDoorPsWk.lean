/-
  Contract of the laws' wakes. Condition: that the kinds' names read as they are listed.
-/
import Derived.Test.YtffbachgbcefiaaDoorPsCh
import Derived.Test.YtffbachgbcefiaaDoorPsNames
namespace Go.Proofs.YtffbachgbcefiaaDoor
open Go.RowKit Plain
set_option linter.unusedVariables false
set_option linter.unusedSimpArgs false

theorem Kp.kept {a b c : World} (h : Kp a b) (k : Kp b c) : Kp a c := h.trans k
theorem ints_three (w : World) (a b c : Int) (t : TypeId) : IntsIn (w.alloc (.cells #[.int .i64 a, .int .i64 b, .int .i64 c] t)) (.slice (some ⟨w.heap.size, 0, none⟩) 3 3) [a, b, c] :=
  .some w.heap.size 0 3 [a, b, c] (by simp) (by simp) (by unfold maxLen; omega) (fun i hi => by
    rw [pcell_of (pnew_obj w _ _), Nat.zero_add]
    obtain rfl | rfl | rfl : i = 0 ∨ i = 1 ∨ i = 2 := by simp at hi; omega
    · rfl
    · rfl
    · rfl)
theorem ints_one (w : World) (a : Int) (t : TypeId) : IntsIn (w.alloc (.cells #[.int .i64 a] t)) (.slice (some ⟨w.heap.size, 0, none⟩) 1 1) [a] :=
  .some w.heap.size 0 1 [a] (by simp) (by simp) (by unfold maxLen; omega) (fun i hi => by
    rw [pcell_of (pnew_obj w _ _), Nat.zero_add]
    obtain rfl : i = 0 := by simp at hi; omega
    rfl)
theorem build_st3 (D : Int) (f g : Nat → Bool) (w : World) : (Instr.build 30 #[(0, .int .i64 D), (1, SV f), (2, SV g)]).run Tryd.prog w = .ok (PV ⟨D, f, g, noF, noF⟩) w := by
  unfold PV psA
  simp only [no_word]
  exact run_build w 30 _ _ (by kernel_rfl)
theorem wl_bst3 {ops : Array Oper} {rest : List Oper} {op : Oper} {a : Act} {w : World} {Q : Exit → Act → World → Prop} (hgd : op.guard = none) {x y z : Operand} (ho : op.op = .build 30 #[(0, x), (1, y), (2, z)]) {D : Int} {f g : Nat → Bool} (hx : a.eval x = .int .i64 D) (hy : a.eval y = SV f) (hz : a.eval z = SV g)
    (h : wpList Tryd.prog ops Q rest (a.put op.dst (PV ⟨D, f, g, noF, noF⟩)) w) : wpList Tryd.prog ops Q (op :: rest) a w := by
  have hr := build_st3 D f g w
  refine wpList_plain hgd fun K hK' => ?_
  unfold Oper.wp execOp
  simp only [ho]
  simp [hx, hy, hz, hr]
  exact hK' _ _ h
theorem yl_bplan {ops : Array Oper} {S : World → Prop} {op : Oper} {a : Act} {x y : Operand} (p : Pn) (hw : Region.wanted op (yielded ops a.tmps) = true) (ho : op.op = .build 45 #[(0, x), (1, y)]) (hx : a.eval x = .int .i64 p.1) (hy : a.eval y = SV p.2) : YieldsIf Tryd.prog ops S op (pV p) a := by
  refine .inl ⟨hw, fun w _ => ?_⟩
  have hr := build_plan p.1 p.2 w
  unfold execOp
  simp only [ho]
  simp [hx, hy, hr]
theorem eqp_type : Tryd.prog.eqGuardType Tryd.prog.depth 45 = false := by kernel_rfl
theorem eqp_guard (p q : Pn) (x y : Operand) (w : World) : (eqGuard BinOp.eql 45 x y (pV p) (pV q)).run Tryd.prog w = .ok () w := by
  have h := eqp_type
  unfold pV
  go_simp
theorem eq4_9 (a b c d : Int) (w : World) :
    (Op.equalIn 9999 28 (.agg #[.int .u64 a, .int .u64 b, .int .u64 c, .int .u64 d]) (.agg #[.int .u64 a, .int .u64 b, .int .u64 c, .int .u64 d])).run Tryd.prog w = .ok true w := by
  have u3 := Tryd.underlying22
  have a3 := Tryd.isAgg22
  have z3 := Tryd.sizeOf22
  rw [show (9999 : Nat) = 9998 + 1 from rfl, Op.equalIn]
  simp only [Sem.run_bind, run_underlying Tryd.underlying28, Result.andThen_ok]
  simp only [Std.Legacy.Range.forIn_eq_forIn_range', Std.Legacy.Range.size, Nat.sub_zero, Nat.add_sub_cancel, Nat.div_one, List.range'_succ, List.range'_zero, List.forIn_cons, List.forIn_nil]
  go_simp
theorem eqp_bin (p : Pn) (w : World) : (binOp BinOp.eql 45 (pV p) (pV p)).run Tryd.prog w = .ok (.bool true) w := by
  have h1 := eq4_9 (wd p.2 0 : Nat) (wd p.2 1 : Nat) (wd p.2 2 : Nat) (wd p.2 3 : Nat) w
  have u1 := Tryd.underlying45
  have u2 := Tryd.underlying28
  have u3 := Tryd.underlying22
  have u4 := Tryd.underlying43
  have a1 := Tryd.isAgg43
  have a2 := Tryd.isAgg28
  have a3 := Tryd.isAgg22
  have z1 := Tryd.sizeOf43
  have z2 := Tryd.sizeOf28
  have z3 := Tryd.sizeOf22
  unfold pV pA
  go_simp
theorem pV_congr {k : Nat} {f g : Nat → Bool} (h : ∀ i, i < 256 → f i = g i) : pV (k, f) = pV (k, g) := by
  unfold pV pA
  rw [wd_congr f g h 0 (by omega), wd_congr f g h 1 (by omega), wd_congr f g h 2 (by omega), wd_congr f g h 3 (by omega)]
theorem yl_eqp {ops : Array Oper} {S : World → Prop} {op : Oper} {a : Act} {x y : Operand} (p q : Pn) (hpq : pV p = pV q) (hw : Region.wanted op (yielded ops a.tmps) = true) (ho : op.op = .binOp .eql 45 x y 45) (hx : a.eval x = pV p) (hy : a.eval y = pV q) : YieldsIf Tryd.prog ops S op (.bool true) a := by
  refine .inl ⟨hw, fun w _ => ?_⟩
  rw [← hpq] at hy
  have h1 := eqp_guard p p x y w
  have h2 := eqp_bin p w
  unfold execOp
  simp only [ho]
  simp [hx, hy, h1, h2]
theorem yl_kind {ops : Array Oper} {S : World → Prop} {op : Oper} {a : Act} {x : Operand} {b : Nat} {p : Pn} (hw : Region.wanted op (yielded ops a.tmps) = true) (ho : op.op = .load 43 x) (hx : a.eval x = .pointer (some ⟨b, 0, none⟩)) (hS : ∀ w, S w → Px w b p) : YieldsIf Tryd.prog ops S op (.int .i64 p.1) a := by
  refine .inl ⟨hw, fun w h => ?_⟩
  have hc := (hS w h).range 0 _ rfl
  rw [Nat.zero_add] at hc
  unfold execOp
  simp only [ho]
  simp only [hx]
  go_simp
/-! ### the laws' first state -/
def wkS : PS := ⟨4, inL [1], inL [1], noF, noF⟩
theorem wkS_good : gdP wkS = true := by decide +kernel
theorem wkS_wy : wyL wkS = [1, 2, 3] := by decide +kernel
theorem wkS_ch : chW wkS = 1 := by decide +kernel
theorem wk_small : pV (2, rdW wkS 2) = pV (2, inL [1, 4, 5]) := pV_congr (by decide +kernel)
theorem wk_great : pV (1, rdW wkS 1) = pV (1, inL [0, 2, 3]) := pV_congr (by decide +kernel)
theorem wkS_q : wyQ wkS = [(1, rdW wkS 1), (2, rdW wkS 2), (3, rdW wkS 3)] := by unfold wyQ; rw [wkS_wy]; rfl
theorem wkS_p : chP wkS = (1, rdW wkS 1) := by unfold chP; rw [if_pos wkS_good, wkS_ch]
theorem wkS_e : wyE wkS = 0 := by unfold wyE; rw [if_pos wkS_good]
theorem wk_name : wnI 1 = ⟨#[103, 114, 101, 97, 116]⟩ := by decide +kernel
set_option maxRecDepth 100000 in
set_option maxHeartbeats 8000000 in
theorem wakes_any (w : World) (hN : Wn w) : Calls Tryd.prog 12 #[] w fun e w' => e = .returned (.bool true) ∧ Kp w w' := by
  obtain ⟨w0, hw0⟩ : ∃ w0, w0 = w.alloc (.cells #[.int .i64 1] 3) := ⟨_, rfl⟩
  have k0 : Kp w w0 := by rw [hw0]; exact (Kp.refl w).alloc _
  have hO := of_any _ [1] w0 (by rw [hw0]; exact ints_one w 1 _)
  have HW := hid hw0
  have HK := hid k0
  clear hw0 k0
  have hz : ∀ W, (zeroValue 30).run Tryd.prog W = .ok (PV ⟨0, noF, noF, noF, noF⟩) W := fun W => by
    unfold PV psA
    simp only [no_word]
    kernel_rfl
  go_enter Tryd.func12, Tryd.ntmps12
  go_wp2_with fail
  rw [show w.alloc (.cells #[.int .i64 1] 3) = w0 from HW.out.symm]
  refine hO.mono ?_; rintro e w1 ⟨rfl, k1⟩
  obtain ⟨w2, hw2⟩ : ∃ w2, w2 = w1.alloc (.cells #[.int .i64 1] 3) := ⟨_, rfl⟩
  have K2 : Hid (Kp w w2) := by show Kp w w2; rw [hw2]; exact (HK.out.trans k1).alloc _
  have hO2 := of_any _ [1] w2 (by rw [hw2]; exact ints_one w1 1 _)
  have HW2 := hid hw2
  clear hO k1 HK HW hw2
  go_wp2_with fail
  rw [show w1.alloc (.cells #[.int .i64 1] 3) = w2 from HW2.out.symm]
  refine hO2.mono ?_; rintro e w3 ⟨rfl, k3⟩
  obtain ⟨V4, hV4⟩ : ∃ V, V = w3.alloc (.cells (psA ⟨0, noF, noF, noF, noF⟩) 30) := ⟨_, rfl⟩
  have q4 : Qx V4 w3.heap.size ⟨0, noF, noF, noF, noF⟩ := by rw [hV4]; exact Qx.new w3 _
  obtain ⟨V5, hV5⟩ : ∃ V, V = V4.setCells w3.heap.size 0 (psA wkS).toList := ⟨_, rfl⟩
  have q5 : Qx V5 w3.heap.size wkS := by rw [hV5]; exact q4.set wkS
  have k5 : Kp w V5 := by rw [hV5, hV4]; exact kp_setCells ((K2.out.trans k3).alloc _) _ _ (K2.out.trans k3).size _
  have H4 := hid (And.intro hV4 (And.intro hV5 q4.there))
  have HR5 := hid q5.range
  have hW := ways_any wkS V5
  rw [wkS_e, wkS_q] at hW
  have HK5 := hid (And.intro q5 k5)
  clear hO2 k3 K2 HW2 hV4 hV5 q4 q5 k5
  go_wp2_with (first
    | (refine wl_bst3 rfl rfl rfl rfl rfl ?_)
    | (change wpList _ _ _ _ _ (w3.alloc (.cells (psA ⟨0, noF, noF, noF, noF⟩) 30)); rw [← show V4 = w3.alloc (.cells (psA ⟨0, noF, noF, noF, noF⟩) 30) from H4.out.1]; refine wl_qstore (s := wkS) rfl rfl rfl rfl rfl H4.out.2.2 ?_; rw [← show V5 = V4.setCells w3.heap.size 0 (psA wkS).toList from H4.out.2.1])
    | (refine wl_qload rfl rfl rfl HR5.out ?_))
  refine hW.mono ?_; rintro e w6 ⟨v, rfl, hv, k6⟩
  obtain ⟨pp, c, g, rfl, hc1, hc2, hp, hr⟩ := hv.cells
  obtain rfl := hp (by decide)
  have hr1 := hr 1 (by decide)
  have HR6 := hid (HK5.out.1.kept k6).range
  have HK6 := hid (HK5.out.2.trans k6)
  have hC := choose_any wkS w6
  rw [wkS_e, wkS_p] at hC
  have HR1 := hid hr1
  have HC1 := hid hc1
  clear hW hv k6 HK5 HR5 H4 hz hr hr1 hp hc1
  go_wp2_with (refine wl_qload rfl rfl rfl HR6.out ?_)
  refine hC.mono ?_; rintro e w7 ⟨rfl, k7⟩
  have hz : ∀ W, (zeroValue 45).run Tryd.prog W = .ok (pV pZp) W := fun W => by
    obtain ⟨i, hi, hz0, _⟩ := info_parts pinfo
    rw [pZ_is] at hz0
    simp [zeroValue, typeInfo, hi, hz0]
  obtain ⟨V8, hV8⟩ : ∃ V, V = w7.alloc (.cells (pA pZp) 45) := ⟨_, rfl⟩
  have p8 : Px V8 w7.heap.size pZp := by rw [hV8]; exact Px.new w7 _
  obtain ⟨V, hV⟩ : ∃ V, V = V8.setCells w7.heap.size 0 (pA (1, rdW wkS 1)).toList := ⟨_, rfl⟩
  have k8 : Kp w7 V := by rw [hV, hV8]; exact kp_setCells ((Kp.refl w7).alloc _) _ _ (Nat.le_refl _) _
  have H8 := hid (And.intro hV8 (And.intro hV p8.there))
  have H : Hid (Kp w V ∧ Px V w7.heap.size (1, rdW wkS 1) ∧ V.rangeAt g 5 (pA (2, rdW wkS 2)).toList ∧ Wn V) := ⟨(HK6.out.trans k7).trans k8, by rw [hV]; exact p8.set _, range_kept HR1.out (k7.trans k8), hN.kp ((HK6.out.trans k7).trans k8)⟩
  clear hC k7 k8 hV8 hV p8 HR6 HK6 HR1
  go_upto_region 4 with (first
    | (change wpList _ _ _ _ _ (w7.alloc (.cells (pA pZp) 45)); rw [← show V8 = w7.alloc (.cells (pA pZp) 45) from H8.out.1]; refine wl_pstore rfl rfl rfl (p := (1, rdW wkS 1)) rfl rfl H8.out.2.2 ?_; rw [← show V = V8.setCells w7.heap.size 0 (pA (1, rdW wkS 1)).toList from H8.out.2.1]))
  clear H8 hz
  have h1 : Kp V V.drew := (Kp.refl V).drew
  have hname : ∀ X, Kp V X → Calls Tryd.prog 13 #[.int .i64 ((1 : Nat) : Int)] X fun e X' => e = .returned (.string ⟨#[103, 114, 101, 97, 116]⟩) ∧ Kp X X' := fun X k => (wname_any 1 X (H.out.2.2.2.kp k)).mono fun e X' ⟨h1, h2⟩ => ⟨by rw [h1, wk_name], by rw [h2]; exact Kp.refl X⟩
  have hlen : ((3 : Nat) : Int) = 3 := rfl
  refine wp_region_held_drew (S := fun X => Kp V X) (by kernel_rfl) (h1) (fun hHeld => ?_)
  change wpAnyH _ _ _ _ _ 34 #[false, false, false, false, false, false, false, false, false, false, false, false, false, false, false, false, false, false, false, false, false, false, false, false, false, false, false, false, false, false, false, false, false, false] _ _
  refine wpAnyH_takeD (i := 0) (oi := _) (v := ?_) 21 rfl (by rfl) (by kernel_rfl) (by kernel_rfl) (by kernel_rfl) (fun _ _ _ h => h) (.inl ⟨by rfl, ?_⟩) (by assumption) ?_
  rotate_left; ((intro w hSw; (try dsimp only at hSw); go_simp); first | done | with_reducible rfl)
  try simp only [Act.put, List.setIfInBounds_toArray, List.set_cons_zero, List.set_cons_succ]
  change wpAnyH _ _ _ _ _ 33 #[true, false, false, false, false, false, false, false, false, false, false, false, false, false, false, false, false, false, false, false, false, false, false, false, false, false, false, false, false, false, false, false, false, false] _ _
  refine wpAnyH_takeD (i := 1) (oi := _) (v := ?_) 22 rfl (by rfl) (by kernel_rfl) (by kernel_rfl) (by kernel_rfl) (fun _ _ _ h => h) (.inl ⟨by rfl, ?_⟩) (by assumption) ?_
  rotate_left; ((intro w hSw; (try dsimp only at hSw); go_simp); first | done | with_reducible rfl)
  try simp only [Act.put, List.setIfInBounds_toArray, List.set_cons_zero, List.set_cons_succ]
  change wpAnyH _ _ _ _ _ 32 #[true, true, false, false, false, false, false, false, false, false, false, false, false, false, false, false, false, false, false, false, false, false, false, false, false, false, false, false, false, false, false, false, false, false] _ _
  refine wpAnyH_takeD (i := 2) (oi := _) (v := ?_) 23 rfl (by rfl) (by kernel_rfl) (by kernel_rfl) (by kernel_rfl) (fun _ _ _ h => h) (.inl ⟨by rfl, ?_⟩) (by assumption) ?_
  rotate_left; ((intro w hSw; (try dsimp only at hSw); go_simp); first | done | with_reducible rfl)
  try simp only [Act.put, List.setIfInBounds_toArray, List.set_cons_zero, List.set_cons_succ]
  change wpAnyH _ _ _ _ _ 31 #[true, true, true, false, false, false, false, false, false, false, false, false, false, false, false, false, false, false, false, false, false, false, false, false, false, false, false, false, false, false, false, false, false, false] _ _
  refine wpAnyH_takeD (i := 3) (oi := _) (v := ?_) 24 rfl (by rfl) (by kernel_rfl) (by kernel_rfl) (by kernel_rfl) (fun _ _ _ h => h) (.inl ⟨by rfl, ?_⟩) (by assumption) ?_
  rotate_left; ((intro w hSw; (try dsimp only at hSw); go_simp); first | done | with_reducible rfl)
  try simp only [Act.put, List.setIfInBounds_toArray, List.set_cons_zero, List.set_cons_succ]
  change wpAnyH _ _ _ _ _ 30 #[true, true, true, true, false, false, false, false, false, false, false, false, false, false, false, false, false, false, false, false, false, false, false, false, false, false, false, false, false, false, false, false, false, false] _ _
  refine wpAnyH_takeD (i := 4) (oi := _) (v := ?_) 25 rfl (by rfl) (by kernel_rfl) (by kernel_rfl) (by kernel_rfl) (fun _ _ _ h => h) (.inl ⟨by rfl, ?_⟩) (by assumption) ?_
  rotate_left; ((intro w hSw; (try dsimp only at hSw); go_simp); first | done | with_reducible rfl)
  try simp only [Act.put, List.setIfInBounds_toArray, List.set_cons_zero, List.set_cons_succ]
  change wpAnyH _ _ _ _ _ 29 #[true, true, true, true, true, false, false, false, false, false, false, false, false, false, false, false, false, false, false, false, false, false, false, false, false, false, false, false, false, false, false, false, false, false] _ _
  refine wpAnyH_takeD (i := 5) (oi := _) (v := ?_) 26 rfl (by rfl) (by kernel_rfl) (by kernel_rfl) (by kernel_rfl) (fun _ _ _ h => h) (.inl ⟨by rfl, ?_⟩) (by assumption) ?_
  rotate_left; ((intro w hSw; (try dsimp only at hSw); go_simp); first | done | with_reducible rfl)
  try simp only [Act.put, List.setIfInBounds_toArray, List.set_cons_zero, List.set_cons_succ]
  change wpAnyH _ _ _ _ _ 28 #[true, true, true, true, true, true, false, false, false, false, false, false, false, false, false, false, false, false, false, false, false, false, false, false, false, false, false, false, false, false, false, false, false, false] _ _
  refine wpAnyH_takeD (i := 6) (oi := _) (v := ?_) 27 rfl (by rfl) (by kernel_rfl) (by kernel_rfl) (by kernel_rfl) (fun _ _ _ h => h) (.inl ⟨by rfl, ?_⟩) (by assumption) ?_
  rotate_left; ((intro w hSw; (try dsimp only at hSw); go_simp); first | done | with_reducible rfl)
  try simp only [Act.put, List.setIfInBounds_toArray, List.set_cons_zero, List.set_cons_succ]
  change wpAnyH _ _ _ _ _ 27 #[true, true, true, true, true, true, true, false, false, false, false, false, false, false, false, false, false, false, false, false, false, false, false, false, false, false, false, false, false, false, false, false, false, false] _ _
  refine wpAnyH_takeD (i := 7) (oi := _) (v := ?_) 28 rfl (by rfl) (by kernel_rfl) (by kernel_rfl) (by kernel_rfl) (fun _ _ _ h => h) (.inl ⟨by rfl, ?_⟩) (by assumption) ?_
  rotate_left; ((intro w hSw; (try dsimp only at hSw); go_simp); first | done | with_reducible rfl)
  try simp only [Act.put, List.setIfInBounds_toArray, List.set_cons_zero, List.set_cons_succ]
  change wpAnyH _ _ _ _ _ 26 #[true, true, true, true, true, true, true, true, false, false, false, false, false, false, false, false, false, false, false, false, false, false, false, false, false, false, false, false, false, false, false, false, false, false] _ _
  refine wpAnyH_takeD (i := 8) (oi := _) (v := ?_) 29 rfl (by rfl) (by kernel_rfl) (by kernel_rfl) (by kernel_rfl) (fun _ _ _ h => h) (.inl ⟨by rfl, ?_⟩) (by assumption) ?_
  rotate_left; ((intro w hSw; (try dsimp only at hSw); go_simp); first | done | with_reducible rfl)
  try simp only [Act.put, List.setIfInBounds_toArray, List.set_cons_zero, List.set_cons_succ]
  change wpAnyH _ _ _ _ _ 25 #[true, true, true, true, true, true, true, true, true, false, false, false, false, false, false, false, false, false, false, false, false, false, false, false, false, false, false, false, false, false, false, false, false, false] _ _
  refine wpAnyH_takeD (i := 9) (oi := _) (v := ?_) 30 rfl (by rfl) (by kernel_rfl) (by kernel_rfl) (by kernel_rfl) (fun _ _ _ h => h) (.inl ⟨by rfl, ?_⟩) (by assumption) ?_
  rotate_left; ((intro w hSw; (try dsimp only at hSw); go_simp); first | done | with_reducible rfl)
  try simp only [Act.put, List.setIfInBounds_toArray, List.set_cons_zero, List.set_cons_succ]
  change wpAnyH _ _ _ _ _ 24 #[true, true, true, true, true, true, true, true, true, true, false, false, false, false, false, false, false, false, false, false, false, false, false, false, false, false, false, false, false, false, false, false, false, false] _ _
  refine wpAnyH_takeD (i := 10) (oi := _) (v := ?_) 31 rfl (by rfl) (by kernel_rfl) (by kernel_rfl) (by kernel_rfl) (fun _ _ _ h => h) (.inl ⟨by rfl, ?_⟩) (by assumption) ?_
  rotate_left; ((intro w hSw; (try dsimp only at hSw); go_simp); first | done | with_reducible rfl)
  try simp only [Act.put, List.setIfInBounds_toArray, List.set_cons_zero, List.set_cons_succ]
  change wpAnyH _ _ _ _ _ 23 #[true, true, true, true, true, true, true, true, true, true, true, false, false, false, false, false, false, false, false, false, false, false, false, false, false, false, false, false, false, false, false, false, false, false] _ _
  refine wpAnyH_takeD (i := 11) (oi := _) (v := ?_) 32 rfl (by rfl) (by kernel_rfl) (by kernel_rfl) (by kernel_rfl) (fun _ _ _ h => h) (.inl ⟨by rfl, ?_⟩) (by assumption) ?_
  rotate_left; ((intro w hSw; (try dsimp only at hSw); go_simp); first | done | with_reducible rfl)
  try simp only [Act.put, List.setIfInBounds_toArray, List.set_cons_zero, List.set_cons_succ]
  change wpAnyH _ _ _ _ _ 22 #[true, true, true, true, true, true, true, true, true, true, true, true, false, false, false, false, false, false, false, false, false, false, false, false, false, false, false, false, false, false, false, false, false, false] _ _
  refine wpAnyH_takeD (i := 12) (oi := _) (v := ?_) 33 rfl (by rfl) (by kernel_rfl) (by kernel_rfl) (by kernel_rfl) (fun _ _ _ h => h) (.inl ⟨by rfl, ?_⟩) (by assumption) ?_
  rotate_left; ((intro w hSw; (try dsimp only at hSw); go_simp); first | done | with_reducible rfl)
  try simp only [Act.put, List.setIfInBounds_toArray, List.set_cons_zero, List.set_cons_succ]
  change wpAnyH _ _ _ _ _ 21 #[true, true, true, true, true, true, true, true, true, true, true, true, true, false, false, false, false, false, false, false, false, false, false, false, false, false, false, false, false, false, false, false, false, false] _ _
  refine wpAnyH_takeD (i := 13) (oi := _) (v := ?_) 34 rfl (by rfl) (by kernel_rfl) (by kernel_rfl) (by kernel_rfl) (fun _ _ _ h => h) (.inl ⟨by rfl, ?_⟩) (by assumption) ?_
  rotate_left; ((intro w hSw; (try dsimp only at hSw); go_simp); first | done | with_reducible rfl)
  try simp only [Act.put, List.setIfInBounds_toArray, List.set_cons_zero, List.set_cons_succ]
  change wpAnyH _ _ _ _ _ 20 #[true, true, true, true, true, true, true, true, true, true, true, true, true, true, false, false, false, false, false, false, false, false, false, false, false, false, false, false, false, false, false, false, false, false] _ _
  refine wpAnyH_takeD (i := 14) (oi := _) (v := _) 35 rfl (by rfl) (by kernel_rfl) (by kernel_rfl) (by kernel_rfl) (fun _ _ _ h => h) (yl_plan (p := (2, rdW wkS 2)) (by rfl) (by rfl) (by rfl) (fun X h => range_kept H.out.2.2.1 h)) (by assumption) ?_
  try simp only [Act.put, List.setIfInBounds_toArray, List.set_cons_zero, List.set_cons_succ]
  change wpAnyH _ _ _ _ _ 19 #[true, true, true, true, true, true, true, true, true, true, true, true, true, true, true, false, false, false, false, false, false, false, false, false, false, false, false, false, false, false, false, false, false, false] _ _
  refine wpAnyH_ready (rs := [15]) (by kernel_rfl) (by simp) ?_
  refine AllReadyH.cons (o := _) rfl ?_ ?_
  rotate_left; exact AllReadyH.nil
  intro K hK
  go_simp
  obtain ⟨Y1, hY⟩ : ∃ Y, Y = V.drew.alloc (.cells #[.int .i64 1, .int .i64 4, .int .i64 5] 3) := ⟨_, rfl⟩
  have k1 : Kp V Y1 := by rw [hY]; exact h1.alloc _
  have hI15 : IntsIn Y1 (.slice (some ⟨V.drew.heap.size, 0, none⟩) 3 3) [1, 4, 5] := by rw [hY]; exact ints_three V.drew 1  4  5 _
  refine hK.out _ _ (by have h9 := k1; rw [hY] at h9; exact h9) (fun hHeld => ?_)
  clear hK K
  try simp only [Act.put, List.setIfInBounds_toArray, List.set_cons_zero, List.set_cons_succ]
  change wpAnyH _ _ _ _ _ 18 #[true, true, true, true, true, true, true, true, true, true, true, true, true, true, true, true, false, false, false, false, false, false, false, false, false, false, false, false, false, false, false, false, false, false] _ _
  change wpAnyH _ _ _ _ _ _ _ _ (V.drew.alloc (.cells #[.int .i64 1, .int .i64 4, .int .i64 5] 3))
  rw [← hY]
  have hHeld2 := k1
  clear hY hHeld
  refine wpAnyH_ready (rs := [16]) (by kernel_rfl) (by simp) ?_
  refine AllReadyH.cons (o := _) rfl ?_ ?_
  rotate_left; exact AllReadyH.nil
  intro K hK
  go_simp
  go_at_call 32
  refine (of_any _ [1, 4, 5] _ hI15).mono ?_; rintro e X2 ⟨rfl, p2⟩
  have k2 := k1.kept p2
  refine hK.out _ _ (k2) (fun hHeld => ?_)
  clear hK K
  try simp only [Act.put, List.setIfInBounds_toArray, List.set_cons_zero, List.set_cons_succ]
  change wpAnyH _ _ _ _ _ 17 #[true, true, true, true, true, true, true, true, true, true, true, true, true, true, true, true, true, false, false, false, false, false, false, false, false, false, false, false, false, false, false, false, false, false] _ _
  refine wpAnyH_takeD (i := 17) (oi := _) (v := _) 38 rfl (by rfl) (by kernel_rfl) (by kernel_rfl) (by kernel_rfl) (fun _ _ _ h => h) (yl_bplan (2, inL [1, 4, 5]) (by rfl) (by rfl) (by rfl) (by rfl)) (by assumption) ?_
  try simp only [Act.put, List.setIfInBounds_toArray, List.set_cons_zero, List.set_cons_succ]
  change wpAnyH _ _ _ _ _ 16 #[true, true, true, true, true, true, true, true, true, true, true, true, true, true, true, true, true, true, false, false, false, false, false, false, false, false, false, false, false, false, false, false, false, false] _ _
  refine wpAnyH_takeD (i := 18) (oi := _) (v := _) 39 rfl (by rfl) (by kernel_rfl) (by kernel_rfl) (by kernel_rfl) (fun _ _ _ h => h) (yl_eqp (2, rdW wkS 2) (2, inL [1, 4, 5]) wk_small (by rfl) (by rfl) (by rfl) (by rfl)) (by assumption) ?_
  try simp only [Act.put, List.setIfInBounds_toArray, List.set_cons_zero, List.set_cons_succ]
  change wpAnyH _ _ _ _ _ 15 #[true, true, true, true, true, true, true, true, true, true, true, true, true, true, true, true, true, true, true, false, false, false, false, false, false, false, false, false, false, false, false, false, false, false] _ _
  refine wpAnyH_takeD (i := 19) (oi := _) (v := ?_) 40 rfl (by rfl) (by kernel_rfl) (by kernel_rfl) (by kernel_rfl) (fun _ _ _ h => h) (.inl ⟨by rfl, ?_⟩) (by assumption) ?_
  rotate_left; ((intro w hSw; (try dsimp only at hSw); go_simp); first | done | with_reducible rfl)
  try simp only [Act.put, List.setIfInBounds_toArray, List.set_cons_zero, List.set_cons_succ]
  change wpAnyH _ _ _ _ _ 14 #[true, true, true, true, true, true, true, true, true, true, true, true, true, true, true, true, true, true, true, true, false, false, false, false, false, false, false, false, false, false, false, false, false, false] _ _
  refine wpAnyH_takeD (i := 20) (oi := _) (v := ?_) 41 rfl (by rfl) (by kernel_rfl) (by kernel_rfl) (by kernel_rfl) (fun _ _ _ h => h) (.inl ⟨by rfl, ?_⟩) (by assumption) ?_
  rotate_left; ((intro w hSw; (try dsimp only at hSw); go_simp); first | done | with_reducible rfl)
  try simp only [Act.put, List.setIfInBounds_toArray, List.set_cons_zero, List.set_cons_succ]
  change wpAnyH _ _ _ _ _ 13 #[true, true, true, true, true, true, true, true, true, true, true, true, true, true, true, true, true, true, true, true, true, false, false, false, false, false, false, false, false, false, false, false, false, false] _ _
  refine wpAnyH_takeD (i := 21) (oi := _) (v := _) 42 rfl (by rfl) (by kernel_rfl) (by kernel_rfl) (by kernel_rfl) (fun _ _ _ h => h) (yl_plan (p := (1, rdW wkS 1)) (by rfl) (by rfl) (by rfl) (fun X h => range_kept H.out.2.1.range h)) (by assumption) ?_
  try simp only [Act.put, List.setIfInBounds_toArray, List.set_cons_zero, List.set_cons_succ]
  change wpAnyH _ _ _ _ _ 12 #[true, true, true, true, true, true, true, true, true, true, true, true, true, true, true, true, true, true, true, true, true, true, false, false, false, false, false, false, false, false, false, false, false, false] _ _
  refine wpAnyH_ready (rs := [22]) (by kernel_rfl) (by simp) ?_
  refine AllReadyH.cons (o := _) rfl ?_ ?_
  rotate_left; exact AllReadyH.nil
  intro K hK
  go_simp
  obtain ⟨Y3, hY⟩ : ∃ Y, Y = X2.alloc (.cells #[.int .i64 0, .int .i64 2, .int .i64 3] 3) := ⟨_, rfl⟩
  have k3 : Kp V Y3 := by rw [hY]; exact k2.alloc _
  have hI22 : IntsIn Y3 (.slice (some ⟨X2.heap.size, 0, none⟩) 3 3) [0, 2, 3] := by rw [hY]; exact ints_three X2 0  2  3 _
  refine hK.out _ _ (by have h9 := k3; rw [hY] at h9; exact h9) (fun hHeld => ?_)
  clear hK K
  try simp only [Act.put, List.setIfInBounds_toArray, List.set_cons_zero, List.set_cons_succ]
  change wpAnyH _ _ _ _ _ 11 #[true, true, true, true, true, true, true, true, true, true, true, true, true, true, true, true, true, true, true, true, true, true, true, false, false, false, false, false, false, false, false, false, false, false] _ _
  change wpAnyH _ _ _ _ _ _ _ _ (X2.alloc (.cells #[.int .i64 0, .int .i64 2, .int .i64 3] 3))
  rw [← hY]
  have hHeld2 := k3
  clear hY hHeld
  refine wpAnyH_ready (rs := [23]) (by kernel_rfl) (by simp) ?_
  refine AllReadyH.cons (o := _) rfl ?_ ?_
  rotate_left; exact AllReadyH.nil
  intro K hK
  go_simp
  go_at_call 32
  refine (of_any _ [0, 2, 3] _ hI22).mono ?_; rintro e X4 ⟨rfl, p4⟩
  have k4 := k3.kept p4
  refine hK.out _ _ (k4) (fun hHeld => ?_)
  clear hK K
  try simp only [Act.put, List.setIfInBounds_toArray, List.set_cons_zero, List.set_cons_succ]
  change wpAnyH _ _ _ _ _ 10 #[true, true, true, true, true, true, true, true, true, true, true, true, true, true, true, true, true, true, true, true, true, true, true, true, false, false, false, false, false, false, false, false, false, false] _ _
  refine wpAnyH_takeD (i := 24) (oi := _) (v := _) 45 rfl (by rfl) (by kernel_rfl) (by kernel_rfl) (by kernel_rfl) (fun _ _ _ h => h) (yl_bplan (1, inL [0, 2, 3]) (by rfl) (by rfl) (by rfl) (by rfl)) (by assumption) ?_
  try simp only [Act.put, List.setIfInBounds_toArray, List.set_cons_zero, List.set_cons_succ]
  change wpAnyH _ _ _ _ _ 9 #[true, true, true, true, true, true, true, true, true, true, true, true, true, true, true, true, true, true, true, true, true, true, true, true, true, false, false, false, false, false, false, false, false, false] _ _
  refine wpAnyH_takeD (i := 25) (oi := _) (v := _) 46 rfl (by rfl) (by kernel_rfl) (by kernel_rfl) (by kernel_rfl) (fun _ _ _ h => h) (yl_eqp (1, rdW wkS 1) (1, inL [0, 2, 3]) wk_great (by rfl) (by rfl) (by rfl) (by rfl)) (by assumption) ?_
  try simp only [Act.put, List.setIfInBounds_toArray, List.set_cons_zero, List.set_cons_succ]
  change wpAnyH _ _ _ _ _ 8 #[true, true, true, true, true, true, true, true, true, true, true, true, true, true, true, true, true, true, true, true, true, true, true, true, true, true, false, false, false, false, false, false, false, false] _ _
  refine wpAnyH_takeD (i := 26) (oi := _) (v := ?_) 47 rfl (by rfl) (by kernel_rfl) (by kernel_rfl) (by kernel_rfl) (fun _ _ _ h => h) (.inl ⟨by rfl, ?_⟩) (by assumption) ?_
  rotate_left; ((intro w hSw; (try dsimp only at hSw); go_simp); first | done | with_reducible rfl)
  try simp only [Act.put, List.setIfInBounds_toArray, List.set_cons_zero, List.set_cons_succ]
  change wpAnyH _ _ _ _ _ 7 #[true, true, true, true, true, true, true, true, true, true, true, true, true, true, true, true, true, true, true, true, true, true, true, true, true, true, true, false, false, false, false, false, false, false] _ _
  refine wpAnyH_takeD (i := 27) (oi := _) (v := ?_) 48 rfl (by rfl) (by kernel_rfl) (by kernel_rfl) (by kernel_rfl) (fun _ _ _ h => h) (.inl ⟨by rfl, ?_⟩) (by assumption) ?_
  rotate_left; ((intro w hSw; (try dsimp only at hSw); go_simp); first | done | with_reducible rfl)
  try simp only [Act.put, List.setIfInBounds_toArray, List.set_cons_zero, List.set_cons_succ]
  change wpAnyH _ _ _ _ _ 6 #[true, true, true, true, true, true, true, true, true, true, true, true, true, true, true, true, true, true, true, true, true, true, true, true, true, true, true, true, false, false, false, false, false, false] _ _
  refine wpAnyH_takeD (i := 28) (oi := _) (v := ?_) 49 rfl (by rfl) (by kernel_rfl) (by kernel_rfl) (by kernel_rfl) (fun _ _ _ h => h) (.inl ⟨by rfl, ?_⟩) (by assumption) ?_
  rotate_left; ((intro w hSw; (try dsimp only at hSw); go_simp); first | done | with_reducible rfl)
  try simp only [Act.put, List.setIfInBounds_toArray, List.set_cons_zero, List.set_cons_succ]
  change wpAnyH _ _ _ _ _ 5 #[true, true, true, true, true, true, true, true, true, true, true, true, true, true, true, true, true, true, true, true, true, true, true, true, true, true, true, true, true, false, false, false, false, false] _ _
  refine wpAnyH_takeD (i := 29) (oi := _) (v := _) 50 rfl (by rfl) (by kernel_rfl) (by kernel_rfl) (by kernel_rfl) (fun _ _ _ h => h) (yl_kind (p := (1, rdW wkS 1)) (by rfl) (by rfl) (by rfl) (fun X h => Px.kept H.out.2.1 h)) (by assumption) ?_
  try simp only [Act.put, List.setIfInBounds_toArray, List.set_cons_zero, List.set_cons_succ]
  change wpAnyH _ _ _ _ _ 4 #[true, true, true, true, true, true, true, true, true, true, true, true, true, true, true, true, true, true, true, true, true, true, true, true, true, true, true, true, true, true, false, false, false, false] _ _
  refine wpAnyH_ready (rs := [30]) (by kernel_rfl) (by simp) ?_
  refine AllReadyH.cons (o := _) rfl ?_ ?_
  rotate_left; exact AllReadyH.nil
  intro K hK
  go_simp
  go_at_call 13
  refine (hname _ k4).mono ?_; rintro e X5 ⟨rfl, p5⟩
  have k5 := k4.kept p5
  refine hK.out _ _ (k5) (fun hHeld => ?_)
  clear hK K
  try simp only [Act.put, List.setIfInBounds_toArray, List.set_cons_zero, List.set_cons_succ]
  change wpAnyH _ _ _ _ _ 3 #[true, true, true, true, true, true, true, true, true, true, true, true, true, true, true, true, true, true, true, true, true, true, true, true, true, true, true, true, true, true, true, false, false, false] _ _
  refine wpAnyH_takeD (i := 31) (oi := _) (v := ?_) 52 rfl (by rfl) (by kernel_rfl) (by kernel_rfl) (by kernel_rfl) (fun _ _ _ h => h) (.inl ⟨by rfl, ?_⟩) (by assumption) ?_
  rotate_left; ((intro w hSw; (try dsimp only at hSw); go_simp); first | done | with_reducible rfl)
  try simp only [Act.put, List.setIfInBounds_toArray, List.set_cons_zero, List.set_cons_succ]
  change wpAnyH _ _ _ _ _ 2 #[true, true, true, true, true, true, true, true, true, true, true, true, true, true, true, true, true, true, true, true, true, true, true, true, true, true, true, true, true, true, true, true, false, false] _ _
  refine wpAnyH_takeD (i := 32) (oi := _) (v := ?_) 53 rfl (by rfl) (by kernel_rfl) (by kernel_rfl) (by kernel_rfl) (fun _ _ _ h => h) (.inl ⟨by rfl, ?_⟩) (by assumption) ?_
  rotate_left; ((intro w hSw; (try dsimp only at hSw); go_simp); first | done | with_reducible rfl)
  try simp only [Act.put, List.setIfInBounds_toArray, List.set_cons_zero, List.set_cons_succ]
  change wpAnyH _ _ _ _ _ 1 #[true, true, true, true, true, true, true, true, true, true, true, true, true, true, true, true, true, true, true, true, true, true, true, true, true, true, true, true, true, true, true, true, true, false] _ _
  refine wpAnyH_takeD (i := 33) (oi := _) (v := ?_) 0 rfl (by rfl) (by kernel_rfl) (by kernel_rfl) (by kernel_rfl) (fun _ _ _ h => h) (.inl ⟨by rfl, ?_⟩) (by assumption) ?_
  rotate_left; ((intro w hSw; (try dsimp only at hSw); go_simp); first | done | with_reducible rfl)
  try simp only [Act.put, List.setIfInBounds_toArray, List.set_cons_zero, List.set_cons_succ]
  change wpAnyH _ _ _ _ _ 0 #[true, true, true, true, true, true, true, true, true, true, true, true, true, true, true, true, true, true, true, true, true, true, true, true, true, true, true, true, true, true, true, true, true, true] _ _
  refine wpAnyH_done (by kernel_rfl) ?_ _
  have e9 := H.out.1.trans k5
  go_wp2
  go_ret
  exact ⟨rfl, e9⟩


end Go.Proofs.YtffbachgbcefiaaDoor
