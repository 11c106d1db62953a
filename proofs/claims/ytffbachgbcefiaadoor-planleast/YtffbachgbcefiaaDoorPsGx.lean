/-
  Contract of the laws' good. Condition: that the data are of 64 bits.
-/
import Derived.Test.YtffbachgbcefiaaDoorPsSm
namespace Go.Proofs.YtffbachgbcefiaaDoor
open Go.RowKit Plain
set_option linter.unusedVariables false
set_option linter.unusedSimpArgs false

theorem bt_and (a m : Nat) (i : Nat) : bt (a &&& m) i = (bt a i && m.testBit i) := by
  unfold bt
  rw [Nat.testBit_and, Bool.and_assoc]
theorem bt_or (a m : Nat) (i : Nat) : bt (a ||| m) i = (bt a i || bt m i) := by
  unfold bt
  rw [Nat.testBit_or]
  cases decide (i < 64) <;> rfl
theorem bt_zero (n : Nat) (hn : n < 18446744073709551616) (h : ∀ i, i < 64 → bt n i = false) : n = 0 := by
  have := bt_word n hn
  rw [← this]
  exact wn_zero 64 _ (fun j hj => by rw [Nat.mul_zero, Nat.zero_add]; exact h j hj)
theorem bt_pow (k i : Nat) (hk : k < 64) : bt (2 ^ k) i = decide (i = k) := by
  unfold bt
  rw [Nat.testBit_two_pow]
  by_cases e : k = i
  · subst e; simp [hk]
  · rw [decide_eq_false e, decide_eq_false (p := i = k) (fun h => e h.symm), Bool.and_false]
theorem bt_mask (d i : Nat) : (2 ^ d - 1).testBit i = decide (i < d) := Nat.testBit_two_pow_sub_one ..
theorem cn_one (k : Nat) : ∀ n, cn n (fun i => decide (i = k)) ≤ 1
  | 0 => by simp [cn]
  | n + 1 => by
    have h := cn_add n 1 (fun i => decide (i = k))
    rw [h]
    by_cases e : n = k
    · have h0 : cn n (fun i => decide (i = k)) = 0 := cn_none n _ (fun i hi => decide_eq_false (by omega))
      have := cn_le 1 (fun j => decide (n + j = k))
      omega
    · have h1 : cn 1 (fun j => decide (n + j = k)) = 0 := cn_none 1 _ (fun i hi => decide_eq_false (by omega))
      have := cn_one k n
      omega
def p2 (d : Nat) : Nat := 2 ^ d
def mk2 (d : Nat) : Nat := 2 ^ d - 1
theorem p2_lt (d : Nat) (h : d < 64) : p2 d < 18446744073709551616 := by
  unfold p2
  calc 2 ^ d < 2 ^ 64 := Nat.pow_lt_pow_right (by omega) h
    _ = 18446744073709551616 := by decide
theorem p2_pos (d : Nat) : 0 < p2 d := Nat.two_pow_pos d
theorem shl_run (d : Nat) (h : d < 64) (w : World) : (Op.shift .shl .u64 1 .i64 (d : Int)).run Tryd.prog w = .ok (.int .u64 (p2 d : Nat)) w := by
  unfold Op.shift
  rw [if_neg (by omega), Int.toNat_natCast]
  have hb : IntKind.u64.bits = 64 := rfl
  simp only [hb, Sem.run_pure]
  rw [show min d 64 = d by omega, pow_ints d (by omega), if_neg (by omega)]
  rfl
theorem mk2_run (d : Nat) (h : d < 64) : IntKind.u64.wrap ((p2 d : Int) - 1) = (mk2 d : Nat) := by
  have h1 := p2_lt d h
  have h2 := p2_pos d
  rw [IntKind.wrap_u64]
  unfold mk2
  unfold p2 at h1 h2 ⊢
  omega
theorem mk2_lt (d : Nat) (h : d < 64) : mk2 d < 18446744073709551616 := by
  have := p2_lt d h
  unfold mk2
  unfold p2 at this
  omega
section
variable {w : World} {b : Nat} {x : RX}
theorem Rw.s0 (h : Rw w b x) (D : Int) : Rw (w.setCell ⟨b, 0, none⟩ (.int .i64 D)) b { x with D := D } := by
  obtain ⟨c0, c1, c2, c3, c4⟩ := h.c
  refine ⟨by rw [size_set]; exact h.lt, ?_, fun j => by rw [World.frozen?_setCell]; exact h.z j⟩
  show (w.setCells b 0 [.int .i64 D]).rangeAt b 0 [.int .i64 D, .int .u64 (x.y : Nat), .int .u64 (x.h : Nat), .int .u64 (x.k : Nat), .int .u64 (x.l : Nat)]
  rw [rangeAt_cons, rangeAt_cons, rangeAt_cons, rangeAt_cons, rangeAt_cons]
  exact ⟨World.cell?_setCell_same _ _ _ c0, cell_apart c1 _ _ _ (by simp), cell_apart c2 _ _ _ (by simp), cell_apart c3 _ _ _ (by simp), cell_apart c4 _ _ _ (by simp), fun j v hj => by simp at hj⟩
theorem Rw.s1 (h : Rw w b x) (n : Nat) : Rw (w.setCell ⟨b, 1, none⟩ (.int .u64 (n : Nat))) b { x with y := n } := by
  obtain ⟨c0, c1, c2, c3, c4⟩ := h.c
  refine ⟨by rw [size_set]; exact h.lt, ?_, fun j => by rw [World.frozen?_setCell]; exact h.z j⟩
  show (w.setCells b 1 [.int .u64 (n : Nat)]).rangeAt b 0 [.int .i64 x.D, .int .u64 (n : Nat), .int .u64 (x.h : Nat), .int .u64 (x.k : Nat), .int .u64 (x.l : Nat)]
  rw [rangeAt_cons, rangeAt_cons, rangeAt_cons, rangeAt_cons, rangeAt_cons]
  exact ⟨cell_apart c0 _ _ _ (by simp), World.cell?_setCell_same _ _ _ c1, cell_apart c2 _ _ _ (by simp), cell_apart c3 _ _ _ (by simp), cell_apart c4 _ _ _ (by simp), fun j v hj => by simp at hj⟩
theorem Rw.s2 (h : Rw w b x) (n : Nat) : Rw (w.setCell ⟨b, 2, none⟩ (.int .u64 (n : Nat))) b { x with h := n } := by
  obtain ⟨c0, c1, c2, c3, c4⟩ := h.c
  refine ⟨by rw [size_set]; exact h.lt, ?_, fun j => by rw [World.frozen?_setCell]; exact h.z j⟩
  show (w.setCells b 2 [.int .u64 (n : Nat)]).rangeAt b 0 [.int .i64 x.D, .int .u64 (x.y : Nat), .int .u64 (n : Nat), .int .u64 (x.k : Nat), .int .u64 (x.l : Nat)]
  rw [rangeAt_cons, rangeAt_cons, rangeAt_cons, rangeAt_cons, rangeAt_cons]
  exact ⟨cell_apart c0 _ _ _ (by simp), cell_apart c1 _ _ _ (by simp), World.cell?_setCell_same _ _ _ c2, cell_apart c3 _ _ _ (by simp), cell_apart c4 _ _ _ (by simp), fun j v hj => by simp at hj⟩
theorem Rw.s3 (h : Rw w b x) (n : Nat) : Rw (w.setCell ⟨b, 3, none⟩ (.int .u64 (n : Nat))) b { x with k := n } := by
  obtain ⟨c0, c1, c2, c3, c4⟩ := h.c
  refine ⟨by rw [size_set]; exact h.lt, ?_, fun j => by rw [World.frozen?_setCell]; exact h.z j⟩
  show (w.setCells b 3 [.int .u64 (n : Nat)]).rangeAt b 0 [.int .i64 x.D, .int .u64 (x.y : Nat), .int .u64 (x.h : Nat), .int .u64 (n : Nat), .int .u64 (x.l : Nat)]
  rw [rangeAt_cons, rangeAt_cons, rangeAt_cons, rangeAt_cons, rangeAt_cons]
  exact ⟨cell_apart c0 _ _ _ (by simp), cell_apart c1 _ _ _ (by simp), cell_apart c2 _ _ _ (by simp), World.cell?_setCell_same _ _ _ c3, cell_apart c4 _ _ _ (by simp), fun j v hj => by simp at hj⟩
theorem Rw.s4 (h : Rw w b x) (n : Nat) : Rw (w.setCell ⟨b, 4, none⟩ (.int .u64 (n : Nat))) b { x with l := n } := by
  obtain ⟨c0, c1, c2, c3, c4⟩ := h.c
  refine ⟨by rw [size_set]; exact h.lt, ?_, fun j => by rw [World.frozen?_setCell]; exact h.z j⟩
  show (w.setCells b 4 [.int .u64 (n : Nat)]).rangeAt b 0 [.int .i64 x.D, .int .u64 (x.y : Nat), .int .u64 (x.h : Nat), .int .u64 (x.k : Nat), .int .u64 (n : Nat)]
  rw [rangeAt_cons, rangeAt_cons, rangeAt_cons, rangeAt_cons, rangeAt_cons]
  exact ⟨cell_apart c0 _ _ _ (by simp), cell_apart c1 _ _ _ (by simp), cell_apart c2 _ _ _ (by simp), cell_apart c3 _ _ _ (by simp), World.cell?_setCell_same _ _ _ c4, fun j v hj => by simp at hj⟩
theorem Rw.set (h : Rw w b x) (x' : RX) : Rw (w.setCells b 0 (rxA x').toList) b x' :=
  ⟨by rw [World.size_setCells]; exact h.lt, World.rangeAt_setCells_same w b 0 _ (show w.there b 0 5 from there_of rfl h.range h.z), fun j => by rw [World.frozen?_setCells]; exact h.z j⟩
end
/-- the data and the result, nothing else changed. -/
structure Ig (w X : World) (x : RX) : Prop where
  r : Rw X w.heap.size x
  q : Rw X (w.heap.size + 1) ⟨0, 0, 0, 0, 0⟩
  kp : Kp w X
section
variable {w X : World} {x : RX}
theorem Ig.s0 (h : Ig w X x) (D : Int) : Ig w (X.setCell ⟨w.heap.size, 0, none⟩ (.int .i64 D)) { x with D := D } := ⟨h.r.s0 D, Rw.far (w := X) h.q (by omega) 0 [.int .i64 D], h.kp.set (Nat.le_refl _) _ _⟩
theorem Ig.s1 (h : Ig w X x) (n : Nat) : Ig w (X.setCell ⟨w.heap.size, 1, none⟩ (.int .u64 (n : Nat))) { x with y := n } := ⟨h.r.s1 n, Rw.far (w := X) h.q (by omega) 1 [.int .u64 (n : Nat)], h.kp.set (Nat.le_refl _) _ _⟩
theorem Ig.s2 (h : Ig w X x) (n : Nat) : Ig w (X.setCell ⟨w.heap.size, 2, none⟩ (.int .u64 (n : Nat))) { x with h := n } := ⟨h.r.s2 n, Rw.far (w := X) h.q (by omega) 2 [.int .u64 (n : Nat)], h.kp.set (Nat.le_refl _) _ _⟩
theorem Ig.s3 (h : Ig w X x) (n : Nat) : Ig w (X.setCell ⟨w.heap.size, 3, none⟩ (.int .u64 (n : Nat))) { x with k := n } := ⟨h.r.s3 n, Rw.far (w := X) h.q (by omega) 3 [.int .u64 (n : Nat)], h.kp.set (Nat.le_refl _) _ _⟩
theorem Ig.s4 (h : Ig w X x) (n : Nat) : Ig w (X.setCell ⟨w.heap.size, 4, none⟩ (.int .u64 (n : Nat))) { x with l := n } := ⟨h.r.s4 n, Rw.far (w := X) h.q (by omega) 4 [.int .u64 (n : Nat)], h.kp.set (Nat.le_refl _) _ _⟩
end
/-- what is lost so far. -/
structure Lo (L m k : Nat) : Prop where
  lt : L < 18446744073709551616
  c : cn 256 (bt L) ≤ m
  j : ∀ i, bt L i = true → i < k
theorem Lo.zero : Lo 0 0 0 := by
  have h : ∀ i, bt 0 i = false := fun i => by unfold bt; simp
  exact ⟨by omega, by rw [cn_none 256 _ (fun i _ => h i)]; omega, fun i hi => by rw [h i] at hi; cases hi⟩
theorem Lo.up {L m k : Nat} (h : Lo L m k) : Lo L m (k + 1) := ⟨h.lt, h.c, fun i hi => by have := h.j i hi; omega⟩
theorem Lo.add {L m k : Nat} (h : Lo L m k) (hk : k < 64) : Lo (L ||| p2 k) (m + 1) (k + 1) := by
  have hb : bt (L ||| p2 k) = fun i => bt L i || decide (i = k) := by
    funext i
    rw [bt_or]
    show (bt L i || bt (2 ^ k) i) = _
    rw [bt_pow k i hk]
  refine ⟨Nat.or_lt_two_pow (n := 64) h.lt (p2_lt k hk), ?_, fun i hi => ?_⟩
  · rw [hb]
    have h1 := cn_both 256 (bt L) (fun i => decide (i = k))
    have h2 := cn_one k 256
    have h3 := h.c
    omega
  · rw [hb] at hi
    rcases Bool.or_eq_true_iff.1 hi with hi | hi
    · have := h.j i hi; omega
    · have := of_decide_eq_true hi; omega
theorem bt_below {a d i : Nat} (h : bt (a &&& mk2 d) i = true) : i < d := by
  rw [bt_and] at h
  have := (Bool.and_eq_true_iff.1 h).2
  unfold mk2 at this
  rw [bt_mask] at this
  exact of_decide_eq_true this
theorem bt_one (i : Nat) (h : bt 1 i = true) : i = 0 := by
  have e : bt (2 ^ 0) i = true := h
  rw [bt_pow 0 i (by omega)] at e
  exact of_decide_eq_true e
theorem gx_good {D y h1 h k L m : Nat} (hD : 2 ≤ D ∧ D ≤ 7) (hy : ∀ i, bt y i = true → i < D) (hyn : y ≠ 0) (hyl : y < 18446744073709551616) (hh : ∀ i, bt h1 i = true → i < D) (e : h = h1 ||| y) (hhl : h < 18446744073709551616) (hk : ∀ i, bt k i = true → i < D) (hkl : k < 18446744073709551616) (hL : Lo L m (D + 2)) (hm : m ≤ 2) : (RX.mk D y h k L).Ok ∧ Gp (RX.mk D y h k L).ps := by
  refine ⟨⟨by show -9223372036854775808 ≤ (D : Int); omega, by show (D : Int) ≤ 9223372036854775807; omega, hyl, hhl, hkl, hL.lt⟩, ?_⟩
  refine ⟨by show 2 ≤ (D : Int); omega, by show (D : Int) ≤ 30; omega, ?_, fun i _ hi => ?_, fun i _ hi => ?_, fun i _ hi => ?_, fun i _ hi => ?_, ?_⟩
  · apply Classical.byContradiction
    intro hn
    refine hyn (bt_zero y hyl fun i hi => ?_)
    cases c : bt y i with
    | false => rfl
    | true => exact absurd ⟨i, by omega, c⟩ hn
  · show bt h i = true
    rw [e, bt_or, show bt y i = true from hi, Bool.or_true]
  · have hi2 : bt h i = true := hi
    rw [e, bt_or] at hi2
    rcases Bool.or_eq_true_iff.1 hi2 with q | q
    · have := hh i q; show (i : Int) < (D : Int); omega
    · have := hy i q; show (i : Int) < (D : Int); omega
  · have := hk i hi; show (i : Int) < (D : Int); omega
  · have := hL.j i hi; show (i : Int) < (D : Int) + 2; omega
  · show cn 256 (bt L) ≤ 2
    have := hL.c
    omega
theorem wl_xload {ops : Array Oper} {rest : List Oper} {op : Oper} {a : Act} {w : World} {Q : Exit → Act → World → Prop} (hgd : op.guard = none) {u : Operand} (ho : op.op = .load 24 u) {b o : Nat} {x : RX} (hx : a.eval u = .pointer (some ⟨b, o, none⟩)) (hb : w.rangeAt b o (rxA x).toList)
    (h : wpList Tryd.prog ops Q rest (a.put op.dst (rxV x)) w) : wpList Tryd.prog ops Q (op :: rest) a w :=
  wpList_load_mid hgd _ u ho b o hx (rxA x).toList _ hb Tryd.underlying24 rfl (by rw [rx_size]; rfl) h
theorem wl_xstore {ops : Array Oper} {rest : List Oper} {op : Oper} {a : Act} {w : World} {Q : Exit → Act → World → Prop} (hgd : op.guard = none) (hd : op.dst = none) {u v : Operand} (ho : op.op = .store 24 u v) {b : Nat} {x : RX} (hx : a.eval u = .pointer (some ⟨b, 0, none⟩)) (hy : a.eval v = rxV x) (hA : w.there b 0 5)
    (h : wpList Tryd.prog ops Q rest a (w.setCells b 0 (rxA x).toList)) : wpList Tryd.prog ops Q (op :: rest) a w := by
  refine wpList_store_mid hgd 24 u v ho b 0 (rxA x) hx hy hA (by rw [rx_size]; rfl) (Array.all_eq_true_iff_forall_mem.2 fun v hv => rxA_one x v (by simpa using hv)) ?_
  rw [hd]
  exact h
theorem p2_run (d : Nat) (h : d < 64) : IntKind.u64.wrap (2 ^ d) = (p2 d : Nat) := by
  have h1 := p2_lt d h
  have e : (2 : Int) ^ d = ((p2 d : Nat) : Int) := by unfold p2; simp
  rw [IntKind.wrap_u64, e]
  omega
set_option maxRecDepth 100000 in
set_option maxHeartbeats 8000000 in
theorem lgood_any (x : RX) (hx : x.Ok) (w : World) : Calls Tryd.prog 5 #[rxV x] w fun e w' => ∃ x' : RX, e = .returned (rxV x') ∧ x'.Ok ∧ Gp x'.ps ∧ x'.D ≤ 7 ∧ Kp w w' := by
  obtain ⟨x0, y0, h0, k0, l0⟩ := x
  obtain ⟨d1, d2, oy, oh, ok, ol⟩ := hx
  simp only at d1 d2 oy oh ok ol
  obtain ⟨wa, hwa⟩ : ∃ wa, wa = w.alloc (.cells (rxA ⟨x0, y0, h0, k0, l0⟩) 24) := ⟨_, rfl⟩
  obtain ⟨w0, hw0⟩ : ∃ w0, w0 = wa.alloc (.cells (rxA ⟨0, 0, 0, 0, 0⟩) 24) := ⟨_, rfl⟩
  have sa : wa.heap.size = w.heap.size + 1 := by rw [hwa]; simp
  have ra : Rw w0 w.heap.size ⟨x0, y0, h0, k0, l0⟩ := by
    have := Rw.new w ⟨x0, y0, h0, k0, l0⟩
    rw [← hwa] at this
    exact this.kept (by rw [hw0]; exact (Kp.refl _).alloc _)
  have rb : Rw w0 (w.heap.size + 1) ⟨0, 0, 0, 0, 0⟩ := by rw [hw0, ← sa]; exact Rw.new wa _
  have kp : Kp w w0 := by rw [hw0, hwa]; exact ((Kp.refl w).alloc _).alloc _
  obtain ⟨c0, -⟩ := ra.c
  have z := ra.z 0
  obtain ⟨D, hD⟩ : ∃ D : Nat, 2 + max 0 x0 % 6 = (D : Int) := ⟨(2 + max 0 x0 % 6).toNat, by omega⟩
  have hD2 : 2 ≤ D ∧ D ≤ 7 := by omega
  obtain ⟨w1, hw1⟩ : ∃ V, V = w0.setCell ⟨w.heap.size, 0, none⟩ (.int .i64 D) := ⟨_, rfl⟩
  have t1 : Ig w w1 ⟨D, y0, h0, k0, l0⟩ := by rw [hw1]; exact (Ig.mk ra rb kp).s0 D
  have HW := hid (And.intro hwa (And.intro hw0 hw1))
  clear hwa hw0 sa ra rb kp hw1
  unfold rxV rxA
  go_enter Tryd.func5, Tryd.ntmps5
  go_upto_region 1 with fail
  change Code.wp _ _ _ _ ((w.alloc (.cells (rxA ⟨x0, y0, h0, k0, l0⟩) 24)).alloc (.cells (rxA ⟨0, 0, 0, 0, 0⟩) 24))
  rw [← show wa = w.alloc (.cells (rxA ⟨x0, y0, h0, k0, l0⟩) 24) from HW.out.1, ← show w0 = wa.alloc (.cells (rxA ⟨0, 0, 0, 0, 0⟩) 24) from HW.out.2.1]
  have T1 := hid t1
  clear t1
  go_upto_region 2 with fail
  rw [← show w1 = w0.setCell ⟨w.heap.size, 0, none⟩ (.int .i64 D) from HW.out.2.2]
  clear HW c0 z hD
  have hsh := p2_run D (by omega)
  have hmr := mk2_run D (by omega)
  have hA := and64 y0 (mk2 D) oy (mk2_lt D (by omega))
  obtain ⟨y1, hy1⟩ : ∃ n, n = y0 &&& mk2 D := ⟨_, rfl⟩
  rw [← hy1] at hA
  have hy1l : y1 < 18446744073709551616 := by rw [hy1]; exact Nat.lt_of_le_of_lt Nat.and_le_left oy
  obtain ⟨c0, c1, -⟩ := T1.out.r.c
  have z := T1.out.r.z 1
  obtain ⟨w2, hw2⟩ : ∃ V, V = w1.setCell ⟨w.heap.size, 1, none⟩ (.int .u64 (y1 : Nat)) := ⟨_, rfl⟩
  have t2 := T1.out.s1 y1
  rw [← hw2] at t2
  have T2 := hid t2
  have HW := hid hw2
  have HY := hid (And.intro hy1 hy1l)
  clear t2 hw2 hy1 hy1l T1
  go_upto_region 4 with fail
  rw [← show w2 = w1.setCell ⟨w.heap.size, 1, none⟩ (.int .u64 (y1 : Nat)) from HW.out]
  clear HW c0 c1 z hA
  by_cases hy0 : y1 = 0
  · subst hy0
    obtain ⟨w3, hw3⟩ : ∃ V, V = w2.setCell ⟨w.heap.size, 1, none⟩ (.int .u64 1) := ⟨_, rfl⟩
    have t3 : Ig w w3 ⟨D, 1, h0, k0, l0⟩ := by rw [hw3]; exact T2.out.s1 1
    obtain ⟨c0, c1, -⟩ := T2.out.r.c
    have z := T2.out.r.z 1
    have HW := hid hw3
    have T3 := hid t3
    clear t3 hw3
    go_upto_region 6 with fail
    rw [← show w3 = w2.setCell ⟨w.heap.size, 1, none⟩ (.int .u64 1) from HW.out]
    clear HW c0 c1 z
    have hH := and64 h0 (mk2 D) oh (mk2_lt D (by omega))
    obtain ⟨h1, hh1⟩ : ∃ n, n = h0 &&& mk2 D := ⟨_, rfl⟩
    rw [← hh1] at hH
    have hh1l : h1 < 18446744073709551616 := by rw [hh1]; exact Nat.lt_of_le_of_lt Nat.and_le_left oh
    have hO : bits .or .u64 (h1 : Int) (1 : Int) = ((h1 ||| 1 : Nat) : Int) := u64_or_nat h1 1 hh1l (by have := HY.out.2; omega)
    obtain ⟨h2, hh2⟩ : ∃ n, n = h1 ||| 1 := ⟨_, rfl⟩
    rw [← hh2] at hO
    have hh2l : h2 < 18446744073709551616 := by rw [hh2]; exact Nat.or_lt_two_pow (n := 64) hh1l (by have := HY.out.2; omega)
    obtain ⟨w4, hw4⟩ : ∃ V, V = w3.setCell ⟨w.heap.size, 2, none⟩ (.int .u64 (h2 : Nat)) := ⟨_, rfl⟩
    have t4 := T3.out.s2 h2
    rw [← hw4] at t4
    obtain ⟨c0, c1, c2, -⟩ := T3.out.r.c
    have z := T3.out.r.z 2
    have HW := hid hw4
    have T4 := hid t4
    have HH := hid (And.intro hh1 (And.intro hh2 hh2l))
    clear t4 hw4 hh1 hh2 hh2l hh1l T3
    go_upto_region 7 with fail
    rw [← show w4 = w3.setCell ⟨w.heap.size, 2, none⟩ (.int .u64 (h2 : Nat)) from HW.out]
    clear HW c0 c1 c2 z hH hO
    have hK := and64 k0 (mk2 D) ok (mk2_lt D (by omega))
    obtain ⟨k1, hk1⟩ : ∃ n, n = k0 &&& mk2 D := ⟨_, rfl⟩
    rw [← hk1] at hK
    have hk1l : k1 < 18446744073709551616 := by rw [hk1]; exact Nat.lt_of_le_of_lt Nat.and_le_left ok
    obtain ⟨w5, hw5⟩ : ∃ V, V = w4.setCell ⟨w.heap.size, 3, none⟩ (.int .u64 (k1 : Nat)) := ⟨_, rfl⟩
    have t5 := T4.out.s3 k1
    rw [← hw5] at t5
    obtain ⟨c0, c1, c2, c3, -⟩ := T4.out.r.c
    have z := T4.out.r.z 3
    have HW := hid hw5
    have T5 := hid t5
    have HKK := hid (And.intro hk1 hk1l)
    clear t5 hw5 hk1 hk1l T4
    go_upto_region 8 with fail
    rw [← show w5 = w4.setCell ⟨w.heap.size, 3, none⟩ (.int .u64 (k1 : Nat)) from HW.out]
    clear HW c0 c1 c2 c3 z hK hsh hmr
    obtain ⟨c0, c1, c2, c3, c4⟩ := T5.out.r.c
    have hDl : (D : Int) ≤ 7 := by omega
    go_wp2
    clear c0 c1 c2 c3
    go_loopw [4, 5, 6, 42] (fun lo n _ i wr => ∃ k L m : Nat, k ≤ D + 2 ∧ i = .int .i64 k ∧ lo = .int .u64 (L : Nat) ∧ n = .int .i64 (m : Nat) ∧ m ≤ 2 ∧ Hid (Lo L m k) ∧ wr = w5) (fun _ _ _ i _ => D + 2 - (intOf i).toNat)
    case atStart => exact ⟨0, 0, 0, by omega, by go_num, by go_num, by go_num, by omega, Lo.zero, rfl⟩
    case round =>
      obtain ⟨k, L, m, hk, rfl, rfl, rfl, hm, HL, rfl⟩ := hrel
      by_cases hkd : k < D + 2
      · have hki : (k : Int) < (D : Int) + 2 := by omega
        have hbv := shr_bit l0 ol k (by omega)
        have hs := p2_run k (by omega)
        obtain ⟨b, hb⟩ : ∃ b, b = bt l0 k := ⟨_, rfl⟩
        rw [← hb] at hbv
        cases b with
        | false =>
          have HN := hid HL.out.up
          clear HL hb
          go_wp2
          go_roundw
          case rel => exact ⟨k + 1, L, m, by omega, by go_num, rfl, rfl, hm, HN, trivial⟩
          case measure => simp [intOf]; omega
        | true =>
          by_cases hm2 : m < 2
          · have hmi : (m : Int) < 2 := by omega
            have hor := u64_or_nat L (p2 k) HL.out.lt (p2_lt k (by omega))
            obtain ⟨L2, hL2⟩ : ∃ n, n = L ||| p2 k := ⟨_, rfl⟩
            rw [← hL2] at hor
            have HN : Hid (Lo L2 (m + 1) (k + 1)) := by show Lo _ _ _; rw [hL2]; exact HL.out.add (by omega)
            clear HL hb hL2
            go_wp2
            go_roundw
            case rel => exact ⟨k + 1, L2, m + 1, by omega, by go_num, rfl, by go_num, by omega, HN, trivial⟩
            case measure => simp [intOf]; omega
          · have hmi : ¬ (m : Int) < 2 := by omega
            have HN := hid HL.out.up
            clear HL hb
            go_wp2
            go_roundw
            case rel => exact ⟨k + 1, L, m, by omega, by go_num, rfl, rfl, hm, HN, trivial⟩
            case measure => simp [intOf]; omega
      · obtain rfl : k = D + 2 := by omega
        have t5 := T5.out
        obtain ⟨c0, c1, c2, c3, -⟩ := t5.r.c
        have z := t5.r.z 4
        obtain ⟨w6, hw6⟩ : ∃ V, V = wr.setCell ⟨w.heap.size, 4, none⟩ (.int .u64 (L : Nat)) := ⟨_, rfl⟩
        have t6 := t5.s4 L
        rw [← hw6] at t6
        have HG := hid (gx_good hD2 (fun i h => by have := bt_one i h; omega) (by omega) (by omega) (fun i h => bt_below (by rw [← HH.out.1]; exact h)) HH.out.2.1 HH.out.2.2 (fun i h => bt_below (by rw [← HKK.out.1]; exact h)) HKK.out.2 HL.out hm)
        obtain ⟨w7, hw7⟩ : ∃ V, V = w6.setCells (w.heap.size + 1) 0 (rxA ⟨D, 1, h2, k1, L⟩).toList := ⟨_, rfl⟩
        have q7 : Rw w7 (w.heap.size + 1) ⟨D, 1, h2, k1, L⟩ := by rw [hw7]; exact t6.q.set _
        have k7 : Kp w w7 := by rw [hw7]; exact kp_setCells t6.kp _ _ (by omega) _
        have HW := hid (And.intro hw6 hw7)
        have HT := hid (And.intro t6.r.range (there_of (cs := (rxA ⟨0, 0, 0, 0, 0⟩).toList) rfl t6.q.range t6.q.z))
        have HE := hid (And.intro q7 k7)
        clear t6 q7 k7 hw6 hw7 t5 T5 HL HH HKK HY T2
        go_upto_region 18 with fail
        rw [← show w6 = wr.setCell ⟨w.heap.size, 4, none⟩ (.int .u64 (L : Nat)) from HW.out.1]
        clear c0 c1 c2 c3 c4 z
        go_wp2_with (first
          | (refine wl_xload rfl rfl rfl HT.out.1 ?_)
          | (refine wl_xstore rfl rfl rfl rfl rfl HT.out.2 ?_; rw [← show w7 = w6.setCells (w.heap.size + 1) 0 (rxA ⟨D, 1, h2, k1, L⟩).toList from HW.out.2]))
        refine bodyPost_ret (res_cell rfl _ _ (w.heap.size + 1) (rxA ⟨D, 1, h2, k1, L⟩) rfl HE.out.1.range Tryd.underlying24 rfl (by rw [rx_size]; rfl)) rfl ?_
        exact ⟨⟨D, 1, h2, k1, L⟩, rfl, HG.out.1, HG.out.2, by show (D : Int) ≤ 7; omega, HE.out.2⟩
  · have hyi : ((y1 : Int) == 0) = false := by simpa using hy0
    obtain ⟨c0, c1, -⟩ := T2.out.r.c
    obtain ⟨w3, hw3⟩ : ∃ V, V = w2 := ⟨_, rfl⟩
    have T3 := T2
    rw [← hw3] at T3
    go_upto_region 6 with fail
    clear c0 c1 hyi
    rw [← hw3]
    clear hw3
    have hH := and64 h0 (mk2 D) oh (mk2_lt D (by omega))
    obtain ⟨h1, hh1⟩ : ∃ n, n = h0 &&& mk2 D := ⟨_, rfl⟩
    rw [← hh1] at hH
    have hh1l : h1 < 18446744073709551616 := by rw [hh1]; exact Nat.lt_of_le_of_lt Nat.and_le_left oh
    have hO := u64_or_nat h1 y1 hh1l (by have := HY.out.2; omega)
    obtain ⟨h2, hh2⟩ : ∃ n, n = h1 ||| y1 := ⟨_, rfl⟩
    rw [← hh2] at hO
    have hh2l : h2 < 18446744073709551616 := by rw [hh2]; exact Nat.or_lt_two_pow (n := 64) hh1l (by have := HY.out.2; omega)
    obtain ⟨w4, hw4⟩ : ∃ V, V = w3.setCell ⟨w.heap.size, 2, none⟩ (.int .u64 (h2 : Nat)) := ⟨_, rfl⟩
    have t4 := T3.out.s2 h2
    rw [← hw4] at t4
    obtain ⟨c0, c1, c2, -⟩ := T3.out.r.c
    have z := T3.out.r.z 2
    have HW := hid hw4
    have T4 := hid t4
    have HH := hid (And.intro hh1 (And.intro hh2 hh2l))
    clear t4 hw4 hh1 hh2 hh2l hh1l T3
    go_upto_region 7 with fail
    rw [← show w4 = w3.setCell ⟨w.heap.size, 2, none⟩ (.int .u64 (h2 : Nat)) from HW.out]
    clear HW c0 c1 c2 z hH hO
    have hK := and64 k0 (mk2 D) ok (mk2_lt D (by omega))
    obtain ⟨k1, hk1⟩ : ∃ n, n = k0 &&& mk2 D := ⟨_, rfl⟩
    rw [← hk1] at hK
    have hk1l : k1 < 18446744073709551616 := by rw [hk1]; exact Nat.lt_of_le_of_lt Nat.and_le_left ok
    obtain ⟨w5, hw5⟩ : ∃ V, V = w4.setCell ⟨w.heap.size, 3, none⟩ (.int .u64 (k1 : Nat)) := ⟨_, rfl⟩
    have t5 := T4.out.s3 k1
    rw [← hw5] at t5
    obtain ⟨c0, c1, c2, c3, -⟩ := T4.out.r.c
    have z := T4.out.r.z 3
    have HW := hid hw5
    have T5 := hid t5
    have HKK := hid (And.intro hk1 hk1l)
    clear t5 hw5 hk1 hk1l T4
    go_upto_region 8 with fail
    rw [← show w5 = w4.setCell ⟨w.heap.size, 3, none⟩ (.int .u64 (k1 : Nat)) from HW.out]
    clear HW c0 c1 c2 c3 z hK hsh hmr
    obtain ⟨c0, c1, c2, c3, c4⟩ := T5.out.r.c
    have hDl : (D : Int) ≤ 7 := by omega
    go_wp2
    clear c0 c1 c2 c3
    go_loopw [4, 5, 6, 42] (fun lo n _ i wr => ∃ k L m : Nat, k ≤ D + 2 ∧ i = .int .i64 k ∧ lo = .int .u64 (L : Nat) ∧ n = .int .i64 (m : Nat) ∧ m ≤ 2 ∧ Hid (Lo L m k) ∧ wr = w5) (fun _ _ _ i _ => D + 2 - (intOf i).toNat)
    case atStart => exact ⟨0, 0, 0, by omega, by go_num, by go_num, by go_num, by omega, Lo.zero, rfl⟩
    case round =>
      obtain ⟨k, L, m, hk, rfl, rfl, rfl, hm, HL, rfl⟩ := hrel
      by_cases hkd : k < D + 2
      · have hki : (k : Int) < (D : Int) + 2 := by omega
        have hbv := shr_bit l0 ol k (by omega)
        have hs := p2_run k (by omega)
        obtain ⟨b, hb⟩ : ∃ b, b = bt l0 k := ⟨_, rfl⟩
        rw [← hb] at hbv
        cases b with
        | false =>
          have HN := hid HL.out.up
          clear HL hb
          go_wp2
          go_roundw
          case rel => exact ⟨k + 1, L, m, by omega, by go_num, rfl, rfl, hm, HN, trivial⟩
          case measure => simp [intOf]; omega
        | true =>
          by_cases hm2 : m < 2
          · have hmi : (m : Int) < 2 := by omega
            have hor := u64_or_nat L (p2 k) HL.out.lt (p2_lt k (by omega))
            obtain ⟨L2, hL2⟩ : ∃ n, n = L ||| p2 k := ⟨_, rfl⟩
            rw [← hL2] at hor
            have HN : Hid (Lo L2 (m + 1) (k + 1)) := by show Lo _ _ _; rw [hL2]; exact HL.out.add (by omega)
            clear HL hb hL2
            go_wp2
            go_roundw
            case rel => exact ⟨k + 1, L2, m + 1, by omega, by go_num, rfl, by go_num, by omega, HN, trivial⟩
            case measure => simp [intOf]; omega
          · have hmi : ¬ (m : Int) < 2 := by omega
            have HN := hid HL.out.up
            clear HL hb
            go_wp2
            go_roundw
            case rel => exact ⟨k + 1, L, m, by omega, by go_num, rfl, rfl, hm, HN, trivial⟩
            case measure => simp [intOf]; omega
      · obtain rfl : k = D + 2 := by omega
        have t5 := T5.out
        obtain ⟨c0, c1, c2, c3, -⟩ := t5.r.c
        have z := t5.r.z 4
        obtain ⟨w6, hw6⟩ : ∃ V, V = wr.setCell ⟨w.heap.size, 4, none⟩ (.int .u64 (L : Nat)) := ⟨_, rfl⟩
        have t6 := t5.s4 L
        rw [← hw6] at t6
        have HG := hid (gx_good hD2 (fun i h => bt_below (by rw [← HY.out.1]; exact h)) hy0 HY.out.2 (fun i h => bt_below (by rw [← HH.out.1]; exact h)) HH.out.2.1 HH.out.2.2 (fun i h => bt_below (by rw [← HKK.out.1]; exact h)) HKK.out.2 HL.out hm)
        obtain ⟨w7, hw7⟩ : ∃ V, V = w6.setCells (w.heap.size + 1) 0 (rxA ⟨D, y1, h2, k1, L⟩).toList := ⟨_, rfl⟩
        have q7 : Rw w7 (w.heap.size + 1) ⟨D, y1, h2, k1, L⟩ := by rw [hw7]; exact t6.q.set _
        have k7 : Kp w w7 := by rw [hw7]; exact kp_setCells t6.kp _ _ (by omega) _
        have HW := hid (And.intro hw6 hw7)
        have HT := hid (And.intro t6.r.range (there_of (cs := (rxA ⟨0, 0, 0, 0, 0⟩).toList) rfl t6.q.range t6.q.z))
        have HE := hid (And.intro q7 k7)
        clear t6 q7 k7 hw6 hw7 t5 T5 HL HH HKK HY T2
        go_upto_region 18 with fail
        rw [← show w6 = wr.setCell ⟨w.heap.size, 4, none⟩ (.int .u64 (L : Nat)) from HW.out.1]
        clear c0 c1 c2 c3 c4 z
        go_wp2_with (first
          | (refine wl_xload rfl rfl rfl HT.out.1 ?_)
          | (refine wl_xstore rfl rfl rfl rfl rfl HT.out.2 ?_; rw [← show w7 = w6.setCells (w.heap.size + 1) 0 (rxA ⟨D, y1, h2, k1, L⟩).toList from HW.out.2]))
        refine bodyPost_ret (res_cell rfl _ _ (w.heap.size + 1) (rxA ⟨D, y1, h2, k1, L⟩) rfl HE.out.1.range Tryd.underlying24 rfl (by rw [rx_size]; rfl)) rfl ?_
        exact ⟨⟨D, y1, h2, k1, L⟩, rfl, HG.out.1, HG.out.2, by show (D : Int) ≤ 7; omega, HE.out.2⟩

end Go.Proofs.YtffbachgbcefiaaDoor
