/-
  Contracts of view, Note and New. Conditions: that the object lies in memory, and is as planners come.
-/
import Derived.Test.YtpeckfeiaomieaaAhMem
import Derived.Test.YtpeckfeiaomieaaMkTail
import Derived.BigRegion
namespace Go.Proofs.Ytpeckfeiaomieaa
open Go.RowKit Plain
set_option linter.unusedVariables false

theorem load_two {P : Program} {w : World} {b : Nat} (p q : Value) (h0 : w.cell? ⟨b, 0, none⟩ = some p) (h1 : w.cell? ⟨b, 1, none⟩ = some q) (ty : TypeId) (fs : Array Field) (hu : P.underlying ty = some (.struct fs)) (hi : (P.info? ty).map (·.size) = some 2) :
    (loadVar ty ⟨b, 0, none⟩).run P w = .ok (.agg #[p, q]) w := by
  have hl : (loadCells ⟨b, 0, none⟩ [p, q].length).run P w = .ok [p, q].toArray w :=
    run_loadCells_list (P := P) w ⟨b, 0, none⟩ [p, q] (fun j x hx => by
      have hadd : (⟨b, 0, none⟩ : Addr).add j = ⟨b, j, none⟩ := by unfold Addr.add; split <;> simp_all
      rw [hadd]
      match j, hx with
      | 0, hx => simp at hx; rw [h0, hx]
      | 1, hx => simp at hx; rw [h1, hx])
  cases hq : P.info? ty with
  | none => simp [hq] at hi
  | some i =>
    have hs : i.size = 2 := by simpa [hq] using hi
    have hagg : (isAgg ty).run P w = .ok true w := by
      unfold isAgg
      rw [Sem.run_bind, run_underlying hu w]
      rfl
    rw [show [p, q].length = 2 from rfl] at hl
    simp [loadVar, Sem.run_bind, hagg, sizeOf, typeInfo, hq, hs, hl]
theorem size_sp : (Try.prog.info? 34).map (·.size) = some 2 := by kernel_rfl
theorem results_sp {fn : Func} {t : Tmp} (h : fn.results = #[.cell t 34]) (tmps : Array Value) (w : World) (b : Nat) (p q : Value) (hp : tmps.getD t undef = .pointer (some ⟨b, 0, none⟩)) (h0 : w.cell? ⟨b, 0, none⟩ = some p) (h1 : w.cell? ⟨b, 1, none⟩ = some q) :
    (results fn tmps).run Try.prog w = .ok (.agg #[p, q]) w := by
  have hp' : tmps[t]?.getD undef = .pointer (some ⟨b, 0, none⟩) := by simpa using hp
  simp [results, h, hp', asAddr, load_two p q h0 h1 34 _ Try.underlying34 size_sp]
theorem results_sp2 {fn : Func} {t u : Tmp} (h : fn.results = #[.cell t 34, .tmp u]) (tmps : Array Value) (w : World) (b : Nat) (p q v : Value) (hp : tmps.getD t undef = .pointer (some ⟨b, 0, none⟩)) (hx : tmps.getD u undef = v) (h0 : w.cell? ⟨b, 0, none⟩ = some p) (h1 : w.cell? ⟨b, 1, none⟩ = some q) :
    (results fn tmps).run Try.prog w = .ok (.tuple #[.agg #[p, q], v]) w := by
  rw [results_cell_tmp h]
  rw [hp, hx]
  simp [asAddr, load_two p q h0 h1 34 _ Try.underlying34 size_sp]
theorem rd_t {x R : Int} (hx : 0 ≤ x) (h : 1 ≤ R) : (x + R - 1).tdiv R = (x + R - 1) / R := Int.tdiv_eq_ediv_of_nonneg (by omega)
set_option maxRecDepth 100000 in
theorem view_any {w : World} {a : Nat} {S : AS} (h : At w a S) (hk : Ak S) : Calls Try.prog 22 #[.pointer (some ⟨a, 0, none⟩)] w fun x w' => x = .returned (.agg #[.int .i64 (frS S), .int .i64 (toS S)]) ∧ Kp w w' := by
  have hmin := @imin Try.prog
  have hmax := @imax Try.prog
  have q1 := hk.B2
  have q2 := hk.n1
  have q3 := hk.n2
  have q4 := hk.w1
  have q5 := hk.w2
  have q6 := hk.R1
  have q7 := hk.R2
  have q8 := hk.B1
  have c0 := h.c0
  have c2 := h.c2
  have c3 := h.c3
  have c4 := h.c4
  have c5 := h.c5
  clear h hk
  obtain ⟨n, r, wi, e, B, R, M⟩ := S
  simp only at c0 c2 c3 c4 c5 q1 q2 q3 q4 q5 q6 q7 q8
  unfold frS toS rdI
  simp only
  have hR : (R == 0) = false := by simp; omega
  obtain ⟨z, hz⟩ : ∃ z, z = (n + wi + R - 1) / R := ⟨_, rfl⟩
  have hd : (n + wi + R - 1).tdiv R = z := by rw [hz]; exact rd_t (by omega) q6
  have hr := rd_le (x := n + wi) q6
  unfold rdI at hr
  rw [← hz] at hr ⊢
  have b1 : 0 ≤ z * R := by omega
  have b2 : z * R ≤ 1099511627776 + 200 := by omega
  have b3 : 0 ≤ z := by rw [hz]; exact Int.ediv_nonneg (by omega) (by omega)
  have b4 : z ≤ 1099511627776 + 200 := by rw [hz]; exact Int.le_trans (Int.ediv_le_self _ (by omega)) (by omega)
  clear hz hr
  obtain ⟨W, hW⟩ : ∃ W, W = w.alloc (.cells #[.int .i64 0, .int .i64 0] 34) := ⟨_, rfl⟩
  obtain ⟨H, hH⟩ : ∃ H, H = w.heap.size := ⟨_, rfl⟩
  have k1 : Kp w W := by rw [hW]; exact (Kp.refl w).alloc _
  have hB : W.heap[H]? = some (.cells #[.int .i64 0, .int .i64 0] 34 (0, 0)) := by rw [hW, hH]; exact new_obj _ _ _
  have d0 := k1.held c0
  have d2 := k1.held c2
  have d3 := k1.held c3
  have d4 := k1.held c4
  have d5 := k1.held c5
  have e0 : W.cell? ⟨H, 0, none⟩ = some (.int .i64 0) := cell_of hB 0
  have e1 : W.cell? ⟨H, 1, none⟩ = some (.int .i64 0) := cell_of hB 1
  have z0 := frozen_of hB 0
  have z1 := frozen_of hB 1
  have HW : Hid (W = w.alloc (.cells #[.int .i64 0, .int .i64 0] 34) ∧ H = w.heap.size) := ⟨hW, hH⟩
  have HK := hid k1
  have HB := hid hB
  clear c0 c2 c3 c4 c5 hW hH k1 hB
  go_enter Try.func22, Try.ntmps22
  go_upto_region 1 with fail
  rw [← HW.out.1, ← HW.out.2]
  go_quiet (fail)
  go_upto_region 2 with fail
  obtain ⟨V, hV⟩ : ∃ V, V = W.drewN nq := ⟨_, rfl⟩
  rw [← hV]
  have kV : Kp w V := by rw [hV]; exact Kp.drewN HK.out _
  have HV := hid kV
  have kD : Kp W V := by rw [hV]; exact Kp.drewN (Kp.refl W) _
  have d0' := kD.held d0
  have d3' := kD.held d3
  have d4' := kD.held d4
  have d5' := kD.held d5
  have e0' := kD.held e0
  have e1' := kD.held e1
  have hB' := (kD.block H (heap_lt HB.out)).trans HB.out
  have z0' := frozen_of hB' 0
  have z1' := frozen_of hB' 1
  have HS := hid hB'
  clear d0 d2 d3 d4 d5 e0 e1 z0 z1 hV kV kD hB' HB
  go_region
  go_wp2
  have HE : Hid (((V.setCell ⟨H, 0, none⟩ (.int .i64 (max e n))).setCell ⟨H, 1, none⟩ (.int .i64 (min (z * R) B))).heap[H]? = some (.cells #[.int .i64 (max e n), .int .i64 (min (z * R) B)] 34 (0, 0)) ∧ Kp w ((V.setCell ⟨H, 0, none⟩ (.int .i64 (max e n))).setCell ⟨H, 1, none⟩ (.int .i64 (min (z * R) B)))) := by
    refine ⟨heap_set (heap_set HS.out _ _) _ _, ?_⟩
    exact Sp.kp HV.out (((Sp.refl [H] V).set H 0 (by simp) _).set H 1 (by simp) _) (fun t ht => by simp at ht; rw [ht, HW.out.2]; exact Nat.le_refl _)
  refine bodyPost_ret (results_sp rfl _ _ H (.int .i64 (max e n)) (.int .i64 (min (z * R) B)) rfl (cell_of HE.out.1 0) (cell_of HE.out.1 1)) rfl ?_
  exact ⟨rfl, HE.out.2.drew⟩


/-! ### Note -/
/-- the block of the answer beside the object. -/
structure Nb (w W : World) (a H : Nat) (S : AS) : Prop where
  at_ : At W a S
  hb : W.heap[H]? = some (.cells #[.int .i64 0, .int .i64 0] 34 (0, 0))
  sp : Sp [a] w W
  lo : w.heap.size ≤ H
  ne : H ≠ a
theorem Nb.cells {w W : World} {a H : Nat} {S : AS} (h : Nb w W a H S) : W.cell? ⟨H, 0, none⟩ = some (.int .i64 0) ∧ W.cell? ⟨H, 1, none⟩ = some (.int .i64 0) ∧ W.frozen? ⟨H, 0, none⟩ = false ∧ W.frozen? ⟨H, 1, none⟩ = false := ⟨cell_of h.hb 0, cell_of h.hb 1, frozen_of h.hb 0, frozen_of h.hb 1⟩
theorem Nb.to {w W V : World} {a H : Nat} {S S' : AS} (h : Nb w W a H S) (k : Sp [a] W V) (h' : At V a S') : Nb w V a H S' :=
  ⟨h', (k.block H (heap_lt h.hb) (by simp [h.ne])).trans h.hb, h.sp.trans k, h.lo, h.ne⟩
theorem Nb.kp {w W V : World} {a H : Nat} {S : AS} (h : Nb w W a H S) (k : Kp W V) : Nb w V a H S := h.to (k.sp _) (h.at_.kp k)
/-- what is stored at last into the answer's block. -/
theorem Nb.put {w W : World} {a H : Nat} {S : AS} (h : Nb w W a H S) (x y : Value) : ((W.setCell ⟨H, 0, none⟩ x).setCell ⟨H, 1, none⟩ y).heap[H]? = some (.cells #[x, y] 34 (0, 0)) ∧ At ((W.setCell ⟨H, 0, none⟩ x).setCell ⟨H, 1, none⟩ y) a S ∧ Sp [a] w ((W.setCell ⟨H, 0, none⟩ x).setCell ⟨H, 1, none⟩ y) := by
  have k : Sp [H] W ((W.setCell ⟨H, 0, none⟩ x).setCell ⟨H, 1, none⟩ y) := (((Sp.refl [H] W).set H 0 (by simp) _).set H 1 (by simp) _)
  refine ⟨heap_set (heap_set h.hb _ _) _ _, h.at_.sp k (by simp; exact fun e => h.ne e.symm), h.sp.then k (fun t ht => .inr ?_)⟩
  simp at ht
  rw [ht]
  exact h.lo
theorem Nb.new {w : World} {a : Nat} {S : AS} (h : At w a S) : Nb w (w.alloc (.cells #[.int .i64 0, .int .i64 0] 34)) a w.heap.size S :=
  ⟨h.kp ((Kp.refl w).alloc _), new_obj _ _ _, ((Kp.refl w).alloc _).sp _, Nat.le_refl _, fun e => by have := h.lt; omega⟩
set_option maxRecDepth 100000 in
set_option maxHeartbeats 2000000 in
theorem note0 {w : World} {a : Nat} {S : AS} (h : At w a S) (hk : Ak S) (b : Int) (hw : wayS S b = 0) : Calls Try.prog 11 #[.pointer (some ⟨a, 0, none⟩), .int .i64 b] w fun x w' => x = .returned (.tuple #[.agg #[.int .i64 0, .int .i64 0], .bool false]) ∧ At w' a S ∧ Sp [a] w w' := by
  have N := Nb.new h
  have c4 := N.at_.c4
  obtain ⟨W, hW⟩ : ∃ W, W = w.alloc (.cells #[.int .i64 0, .int .i64 0] 34) := ⟨_, rfl⟩
  obtain ⟨H, hH⟩ : ∃ H, H = w.heap.size := ⟨_, rfl⟩
  rw [← hW] at N c4
  rw [← hH] at N
  obtain ⟨e0, e1, z0, z1⟩ := N.cells
  have HN := hid (N.put (.int .i64 0) (.int .i64 0))
  have HW : Hid (W = w.alloc (.cells #[.int .i64 0, .int .i64 0] 34) ∧ H = w.heap.size) := ⟨hW, hH⟩
  have hw := way0.1 hw
  clear hW hH N h hk
  by_cases hb : b < 0
  · clear hw c4
    go_enter Try.func11, Try.ntmps11
    go_upto_region 1 with fail
    rw [← HW.out.1, ← HW.out.2]
    go_wp2
    refine bodyPost_ret (results_sp2 rfl _ _ H (.int .i64 0) (.int .i64 0) (.bool false) rfl rfl (cell_of HN.out.1 0) (cell_of HN.out.1 1)) rfl ?_
    exact ⟨rfl, HN.out.2⟩
  · have hb2 : S.B ≤ b := by omega
    clear hw
    go_enter Try.func11, Try.ntmps11
    go_upto_region 1 with fail
    rw [← HW.out.1, ← HW.out.2]
    go_wp2
    refine bodyPost_ret (results_sp2 rfl _ _ H (.int .i64 0) (.int .i64 0) (.bool false) rfl rfl (cell_of HN.out.1 0) (cell_of HN.out.1 1)) rfl ?_
    exact ⟨rfl, HN.out.2⟩
set_option maxRecDepth 100000 in
set_option maxHeartbeats 2000000 in
theorem nnote (b : Int) (w : World) : Calls Try.prog 11 #[.pointer none, .int .i64 b] w fun x w' => x = .returned (.tuple #[.agg #[.int .i64 0, .int .i64 0], .bool false]) ∧ Kp w w' := by
  obtain ⟨W, hW⟩ : ∃ W, W = w.alloc (.cells #[.int .i64 0, .int .i64 0] 34) := ⟨_, rfl⟩
  obtain ⟨H, hH⟩ : ∃ H, H = w.heap.size := ⟨_, rfl⟩
  have hB : W.heap[H]? = some (.cells #[.int .i64 0, .int .i64 0] 34 (0, 0)) := by rw [hW, hH]; exact new_obj _ _ _
  have e0 := cell_of hB 0
  have e1 := cell_of hB 1
  have z0 := frozen_of hB 0
  have z1 := frozen_of hB 1
  have HB : Hid (((W.setCell ⟨H, 0, none⟩ (.int .i64 0)).setCell ⟨H, 1, none⟩ (.int .i64 0)).heap[H]? = some (.cells #[.int .i64 0, .int .i64 0] 34 (0, 0)) ∧ Kp w ((W.setCell ⟨H, 0, none⟩ (.int .i64 0)).setCell ⟨H, 1, none⟩ (.int .i64 0))) :=
    ⟨heap_set (heap_set hB _ _) _ _, Sp.kp (by rw [hW]; exact (Kp.refl w).alloc _) (((Sp.refl [H] W).set H 0 (by simp) _).set H 1 (by simp) _) (fun t ht => by simp at ht; rw [ht, hH]; exact Nat.le_refl _)⟩
  have HW : Hid (W = w.alloc (.cells #[.int .i64 0, .int .i64 0] 34) ∧ H = w.heap.size) := ⟨hW, hH⟩
  clear hW hH hB
  go_enter Try.func11, Try.ntmps11
  go_upto_region 1 with fail
  rw [← HW.out.1, ← HW.out.2]
  go_wp2
  refine bodyPost_ret (results_sp2 rfl _ _ H (.int .i64 0) (.int .i64 0) (.bool false) rfl rfl (cell_of HB.out.1 0) (cell_of HB.out.1 1)) rfl ?_
  exact ⟨rfl, HB.out.2⟩
set_option maxRecDepth 100000 in
set_option maxHeartbeats 2000000 in
theorem note1 {w : World} {a : Nat} {S : AS} (h : At w a S) (hk : Ak S) (b : Int) (hw : wayS S b = 1) : Calls Try.prog 11 #[.pointer (some ⟨a, 0, none⟩), .int .i64 b] w fun x w' => x = .returned (.tuple #[.agg #[.int .i64 0, .int .i64 0], .bool false]) ∧ At w' a (askS S b) ∧ Sp [a] w w' := by
  have N := Nb.new h
  have c4 := N.at_.c4
  obtain ⟨⟨hb1, hb2⟩, hw⟩ := way1.1 hw
  have hA := ask_any N.at_ hk b hb1 hb2
  have hk1 := hk.ask hb1 hb2
  obtain ⟨W, hW⟩ : ∃ W, W = w.alloc (.cells #[.int .i64 0, .int .i64 0] 34) := ⟨_, rfl⟩
  obtain ⟨H, hH⟩ : ∃ H, H = w.heap.size := ⟨_, rfl⟩
  rw [← hW] at N c4 hA
  rw [← hH] at N
  have HN := hid N
  have HW : Hid (W = w.alloc (.cells #[.int .i64 0, .int .i64 0] 34) ∧ H = w.heap.size) := ⟨hW, hH⟩
  have hbB : b < S.B := hb2
  clear hW hH N h hk
  go_enter Try.func11, Try.ntmps11
  go_upto_region 1 with fail
  rw [← HW.out.1, ← HW.out.2]
  go_wp2_with fail
  refine hA.mono ?_; rintro e w1 ⟨rfl, u1, s1⟩
  have N1 := HN.out.to s1 u1
  have d1 := N1.at_.c1
  obtain ⟨T, hT⟩ : ∃ T, T = askS S b := ⟨_, rfl⟩
  rw [← hT] at N1 d1 hk1 hw
  have HT := hid hT
  by_cases hr : T.r < 2
  · obtain ⟨e0, e1, z0, z1⟩ := N1.cells
    have HP := hid (N1.put (.int .i64 0) (.int .i64 0))
    clear hw HN N1 hA s1 u1 hT
    go_wp2
    refine bodyPost_ret (results_sp2 rfl _ _ H (.int .i64 0) (.int .i64 0) (.bool false) rfl rfl (cell_of HP.out.1 0) (cell_of HP.out.1 1)) rfl ?_
    rw [← HT.out]
    exact ⟨rfl, HP.out.2⟩
  · have hf : farS T = true := by rcases hw with h | h; exact absurd h hr; exact h
    have hF := far_any N1.at_ hk1
    rw [hf] at hF
    have HN1 := hid N1
    clear hw HN N1 hA s1 u1 hT
    go_wp2_with fail
    refine hF.mono ?_; rintro e w2 ⟨rfl, k2⟩
    have N2 := HN1.out.kp k2
    obtain ⟨e0, e1, z0, z1⟩ := N2.cells
    have HP := hid (N2.put (.int .i64 0) (.int .i64 0))
    clear hF N2 k2
    go_wp2
    refine bodyPost_ret (results_sp2 rfl _ _ H (.int .i64 0) (.int .i64 0) (.bool false) rfl rfl (cell_of HP.out.1 0) (cell_of HP.out.1 1)) rfl ?_
    rw [← HT.out]
    exact ⟨rfl, HP.out.2⟩

end Go.Proofs.Ytpeckfeiaomieaa
