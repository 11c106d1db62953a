/-
  Contracts of a member's calls: Counts, Read. Conditions: that the member lies in memory, its lock free.
-/
import Derived.Test.YtohakbhjkhhcaaaMmOne
namespace Go.Proofs.Ytohakbhjkhhcaaa
open Go.RowKit Plain Go.RwLone
set_option linter.unusedVariables false

theorem Kp.set {w w1 : World} (h : Kp w w1) (B o : Nat) (hB : w.heap.size ≤ B) (v : Value) : Kp w (w1.setCell ⟨B, o, none⟩ v) := Below.setCell h (p := ⟨B, o, none⟩) hB v
/-- the counts told. -/
def cV (c : Nat → Int) : Value := .agg #[.int .i64 (c 0), .int .i64 (c 1), .int .i64 (c 2), .int .i64 (c 3)]
theorem size_cv : (Try.prog.info? 60).map (·.size) = some 4 := by kernel_rfl
theorem range4 {w : World} {b o : Nat} {p q r s : Value} (h0 : w.cell? ⟨b, o, none⟩ = some p) (h1 : w.cell? ⟨b, o + 1, none⟩ = some q) (h2 : w.cell? ⟨b, o + 2, none⟩ = some r) (h3 : w.cell? ⟨b, o + 3, none⟩ = some s) : w.rangeAt b o [p, q, r, s] := fun j v hv => by
  have hj := (List.getElem?_eq_some_iff.1 hv).1
  have : j = 0 ∨ j = 1 ∨ j = 2 ∨ j = 3 := by simp at hj; omega
  rcases this with rfl | rfl | rfl | rfl <;> (simp at hv; subst hv; assumption)
theorem results_cv {fn : Func} {t : Tmp} (h : fn.results = #[.cell t 60]) (tmps : Array Value) (w : World) (b : Nat) (p q r s : Value) (hp : tmps.getD t undef = .pointer (some ⟨b, 0, none⟩)) (hr : w.rangeAt b 0 [p, q, r, s]) :
    (results fn tmps).run Try.prog w = .ok (.agg #[p, q, r, s]) w := by
  have hp' : tmps[t]?.getD undef = .pointer (some ⟨b, 0, none⟩) := by simpa using hp
  simp [results, h, hp', asAddr, run_loadVar_mid w b 0 60 [p, q, r, s] _ hr Try.underlying60 rfl size_cv]
set_option maxRecDepth 100000 in
theorem told_any {w : World} {b bn bl : Nat} {rv : Value} {S : MS} {x y : Int} (h : MemIn w b bn bl rv S x y) : Calls Try.prog 44 #[.pointer (some ⟨b, 0, none⟩)] w fun e w' => e = .returned (cV S.c) ∧ Kp w w' := by
  obtain ⟨x0, hx0⟩ : ∃ x0, x0 = S.c 0 := ⟨_, rfl⟩
  obtain ⟨x1, hx1⟩ : ∃ x1, x1 = S.c 1 := ⟨_, rfl⟩
  obtain ⟨x2, hx2⟩ : ∃ x2, x2 = S.c 2 := ⟨_, rfl⟩
  obtain ⟨x3, hx3⟩ : ∃ x3, x3 = S.c 3 := ⟨_, rfl⟩
  have c0 := h.cn 0 (by omega)
  have c1 := h.cn 1 (by omega)
  have c2 := h.cn 2 (by omega)
  have c3 := h.cn 3 (by omega)
  unfold cV
  rw [← hx0] at c0 ⊢
  rw [← hx1] at c1 ⊢
  rw [← hx2] at c2 ⊢
  rw [← hx3] at c3 ⊢
  clear hx0 hx1 hx2 hx3
  have hb := h.hb
  clear h
  go_enter Try.func44, Try.ntmps44
  go_wp2_with fail
  obtain ⟨w1, hw1⟩ : ∃ w1, w1 = w.alloc (.cells #[.int .i64 0, .int .i64 0, .int .i64 0, .int .i64 0] 60) := ⟨_, rfl⟩
  have k1 : Kp w w1 := by rw [hw1]; exact (Kp.refl w).alloc _
  rw [← hw1]
  have hl : w.heap.size < w1.heap.size := by rw [hw1]; simp
  have hc1 : ∀ i, i < 4 → w1.cell? ⟨w.heap.size, i, none⟩ = some (.int .i64 0) := fun i hi => (by
    rw [hw1, World.cell?_alloc_at _ _ _ _ rfl]
    have : i = 0 ∨ i = 1 ∨ i = 2 ∨ i = 3 := by omega
    rcases this with rfl | rfl | rfl | rfl <;> rfl)
  have hz1 : ∀ i, w1.frozen? ⟨w.heap.size, i, none⟩ = false := fun i => (by rw [hw1]; exact World.frozen?_alloc_at _ _ _ _ rfl)
  have HC : Hid (∀ i, i < 4 → w1.cell? ⟨w.heap.size, i, none⟩ = some (.int .i64 0)) := hc1
  have HZ : Hid (∀ i, w1.frozen? ⟨w.heap.size, i, none⟩ = false) := hz1
  clear hc1 hz1 hw1
  have q0 := fun p => kpw_cell (k1.held c0) p
  have q1 := fun p => kpw_cell (k1.held c1) p
  have q2 := fun p => kpw_cell (k1.held c2) p
  have q3 := fun p => kpw_cell (k1.held c3) p
  refine wp_region_tail2 rfl (by kernel_rfl) (by kernel_rfl) (by kernel_rfl) ?_
  simp only [List.dropLast]
  repeat (first
    | go_big_quiet_skip
    | (go_big_quiet_want; go_big_quiet_op; go_big_quiet_on)
    | (go_big_quiet_want; go_big_quiet_op; apply Exists.intro; refine ⟨fun p => ?_, ?_⟩; (focus
        first
        | (go_at_call 61; exact kp_same (load_count _ _ _ (q0 p)))
        | (go_at_call 61; exact kp_same (load_count _ _ _ (q1 p)))
        | (go_at_call 61; exact kp_same (load_count _ _ _ (q2 p)))
        | (go_at_call 61; exact kp_same (load_count _ _ _ (q3 p)))); go_big_quiet_on))
  refine wpQuiet_nil ?_
  rintro w9 ⟨p, hp9⟩
  have kD : Kp w1 w9 := by rw [hp9]; exact kpw_kp w1 p
  clear hp9 q0 q1 q2 q3
  have hc : ∀ i, i < 4 → w9.cell? ⟨w.heap.size, i, none⟩ = some (.int .i64 0) := fun i hi => kD.held (HC.out i hi)
  have hz : ∀ i, w9.frozen? ⟨w.heap.size, i, none⟩ = false := fun i => (Below.frozen (p := ⟨w.heap.size, i, none⟩) kD hl).trans (HZ.out i)
  have d0 := hc 0 (by omega)
  have d1 := hc 1 (by omega)
  have d2 := hc 2 (by omega)
  have d3 := hc 3 (by omega)
  have kW := k1.trans kD
  clear k1 kD hc c0 c1 c2 c3
  obtain ⟨B, hB⟩ : ∃ B, B = w.heap.size := ⟨_, rfl⟩
  have hB2 : w.heap.size ≤ B := by omega
  rw [← hB] at d0 d1 d2 d3 hz ⊢
  clear hB
  go_wp2
  refine bodyPost_ret (results_cv rfl _ _ B (.int .i64 x0) (.int .i64 x1) (.int .i64 x2) (.int .i64 x3) rfl ?_) rfl ?_
  · refine range4 ?_ ?_ ?_ ?_ <;> simp [World.cell?_setCell_same, World.cell?_setCell_other, d0, d1, d2, d3]
  · exact ⟨rfl, ((((kW.set B 0 hB2 _).set B 1 hB2 _).set B 2 hB2 _).set B 3 hB2 _)⟩
set_option maxRecDepth 100000 in
theorem counts_any {w : World} {b bn bl : Nat} {rv : Value} {S : MS} {x y : Int} (h : MemIn w b bn bl rv S x y) : Calls Try.prog 24 #[.pointer (some ⟨b, 0, none⟩)] w fun e w' => e = .returned (cV S.c) ∧ Kp w w' := by
  have hb := h.hb
  obtain ⟨B, hB⟩ : ∃ B, B = w.heap.size := ⟨_, rfl⟩
  obtain ⟨w1, hw1⟩ : ∃ w1, w1 = w.alloc (.cells #[.int .i64 0, .int .i64 0, .int .i64 0, .int .i64 0] 60) := ⟨_, rfl⟩
  have k1 : Kp w w1 := by rw [hw1]; exact (Kp.refl w).alloc _
  have ht := told_any (h.kp k1)
  have hl : B < w1.heap.size := by rw [hw1, hB]; simp
  have hc1 : ∀ i, i < 4 → w1.cell? ⟨B, i, none⟩ = some (.int .i64 0) := fun i hi => (by
    rw [hw1, hB, World.cell?_alloc_at _ _ _ _ rfl]
    have : i = 0 ∨ i = 1 ∨ i = 2 ∨ i = 3 := by omega
    rcases this with rfl | rfl | rfl | rfl <;> rfl)
  have hz1 : ∀ i, w1.frozen? ⟨B, i, none⟩ = false := fun i => (by rw [hw1, hB]; exact World.frozen?_alloc_at _ _ _ _ rfl)
  have HC : Hid (∀ i, i < 4 → w1.cell? ⟨B, i, none⟩ = some (.int .i64 0)) := hc1
  have HZ : Hid (∀ i, w1.frozen? ⟨B, i, none⟩ = false) := hz1
  have HB : Hid (B = w.heap.size) := hB
  have HW : Hid (w1 = w.alloc (.cells #[.int .i64 0, .int .i64 0, .int .i64 0, .int .i64 0] 60)) := hw1
  clear hB hw1 hc1 hz1 h
  go_enter Try.func24, Try.ntmps24
  go_wp2_with fail
  rw [← HW.out, ← HB.out]
  refine ht.mono ?_
  rintro e w2 ⟨rfl, k2⟩
  have hz : ∀ i, w2.frozen? ⟨B, i, none⟩ = false := fun i => (Below.frozen (p := ⟨B, i, none⟩) k2 hl).trans (HZ.out i)
  have d0 := k2.held (HC.out 0 (by omega))
  have d1 := k2.held (HC.out 1 (by omega))
  have d2 := k2.held (HC.out 2 (by omega))
  have d3 := k2.held (HC.out 3 (by omega))
  have hB2 : w.heap.size ≤ B := by rw [HB.out]; exact Nat.le_refl _
  have kW := k1.trans k2
  unfold cV
  clear ht
  go_wp2
  refine bodyPost_ret (results_cv rfl _ _ B (.int .i64 (S.c 0)) (.int .i64 (S.c 1)) (.int .i64 (S.c 2)) (.int .i64 (S.c 3)) rfl ?_) rfl ?_
  · refine range4 ?_ ?_ ?_ ?_ <;> simp [World.cell?_setCell_same, World.cell?_setCell_other, d0, d1, d2, d3]
  · exact ⟨rfl, ((((kW.set B 0 hB2 _).set B 1 hB2 _).set B 2 hB2 _).set B 3 hB2 _)⟩

/-! ### Read -/
theorem text_at {w : World} {g : Nat} {L : List ByteArray} (h : SecIn w g L) (i : Nat) (hi : i < L.length) (c : Nat) : (convert 62 9 (.slice (some ⟨g, i * 64, none⟩) 64 c)).run Try.prog w = .ok (.string (L.getD i noS)) w := by
  have hz := h.z _ (getD_mem hi)
  have hr := h.c i hi
  obtain ⟨s, hs⟩ : ∃ s, s = L.getD i noS := ⟨_, rfl⟩
  rw [← hs] at hz hr ⊢
  have := run_convert_bytes_arg (P := Try.prog) w 62 5 Try.underlying62 Try.underlying5 g (i * 64) 64 c ((List.range 64).map fun (j : Nat) => ((bAt s (j : Int) : Nat) : Int)) (by simp) (fun j hj => ?_) 9 Try.underlying9
  · rw [this]
    have e := bs_self s
    rw [hz] at e
    show Result.ok (Value.string (bs 64 fun j => bAt s (j : Int))) w = _
    rw [e]
  · have hl : (byteCells s)[j]? = some (.int .u8 ((bAt s (j : Int) : Nat) : Int)) := by
      have h2 : j < s.data.toList.length := by simpa using (show j < s.size by omega)
      unfold byteCells
      rw [List.getElem?_map, List.getElem?_eq_getElem h2, bAt_nat s j (by omega)]
      rfl
    rw [hr j _ hl]
    simp [List.getD_eq_getElem?_getD, hj]
set_option maxRecDepth 100000 in
theorem read_any {w : World} {b bn bl : Nat} {rv : Value} {S : MS} (h : MemIn w b bn bl rv S 0 0) (k : Int) : Calls Try.prog 12 #[.pointer (some ⟨b, 0, none⟩), .int .i64 k] w fun e w' => e = .returned (.tuple #[.string (rdS S k), .int .i64 (rcE S k)]) ∧ Md w w' b bn bl rv (rd S k) := by
  by_cases hE : rcE S k = 0
  · have e1 : rdS S k = S.now.getD k.toNat noS := if_pos hE
    have e2 : rd S k = ⟨S.now, S.las, S.row, S.dead, up S.c 0⟩ := if_pos hE
    obtain ⟨_, h0, h1⟩ := rc_ok hE
    rw [e1, e2]
    obtain ⟨i, rfl⟩ : ∃ i : Nat, k = (i : Int) := ⟨k.toNat, by omega⟩
    have hi : i < S.now.length := by rw [h.fine.nn]; omega
    have hn2 := h.fine.n2
    rw [Int.toNat_natCast]
    obtain ⟨s, hs⟩ : ∃ s, s = S.now.getD i noS := ⟨_, rfl⟩
    rw [← hs]
    have HS : Hid (s = S.now.getD i noS) := hs
    have HE : Hid (rcE S (i : Int) = 0) := hE
    clear hs hE e1 e2
    go_enter_defers Try.func12, Try.ntmps12
    go_wp2_with fail
    refine (rlock_any h).mono ?_
    rintro e w1 ⟨rfl, h1', k1⟩
    go_wp2_with fail
    refine (reach_any h1' _).mono ?_
    rintro e w2 ⟨rfl, k2⟩
    rw [HE.out]
    have h2 := h1'.kp k2
    go_wp2_with fail
    refine (count_any h2 0 (by omega)).mono ?_
    rintro e w3 ⟨⟨v, rfl⟩, h3, k3⟩
    have cN := h3.cN
    have cv := text_at h3.sn i hi 64
    rw [← HS.out] at cv
    have hlen : (i : Int) < (S.las.length : Int) := h1
    go_wp2_with fail
    refine leaves_cons (f := 34) (args := #[.pointer (some ⟨b, 4, none⟩)]) (by simp) (by simp [go_sem]) ?_
    refine (runlock_any h3 .returning).mono ?_
    rintro e u' w4 ⟨rfl, rfl, h4, k4⟩
    refine ⟨_, results_tmp2 rfl _ _ _, ?_, Md.same h4 (((k1.trans (k2.sp _)).trans k3).trans k4).b⟩
    rw [HE.out]
    rfl
  · have e1 : rdS S k = ByteArray.empty := if_neg hE
    have e2 : rd S k = S := if_neg hE
    rw [e1, e2]
    have hr := fun w1 (h1 : MemIn w1 b bn bl rv S 0 1) => reach_any h1 k
    obtain ⟨E, hEE⟩ : ∃ E, E = rcE S k := ⟨_, rfl⟩
    rw [← hEE] at hE hr ⊢
    have hE2 : (E == 0) = false := by simpa using hE
    clear hEE hE e1 e2
    go_enter_defers Try.func12, Try.ntmps12
    go_wp2_with fail
    refine (rlock_any h).mono ?_
    rintro e w1 ⟨rfl, h1', k1⟩
    go_wp2_with fail
    refine (hr _ h1').mono ?_
    rintro e w2 ⟨rfl, k2⟩
    have h2 := h1'.kp k2
    go_wp2_with fail
    refine leaves_cons (f := 34) (args := #[.pointer (some ⟨b, 4, none⟩)]) (by simp) (by simp [go_sem]) ?_
    refine (runlock_any h2 .returning).mono ?_
    rintro e u' w4 ⟨rfl, rfl, h4, k4⟩
    exact ⟨_, results_tmp2 rfl _ _ _, rfl, Md.same h4 ((k1.trans (k2.sp _)).trans k4).b⟩

end Go.Proofs.Ytohakbhjkhhcaaa
