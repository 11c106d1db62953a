/-
  A stripe's state as a value and in memory; contracts of plan's within, data, columns, parities. Condition: that the number of data columns is one of 64 bits.
-/
import Derived.Test.YtffbachgbcefiaaDoorPsPlain
import Derived.Test.YtffbachgbcefiaaDoorMkTail
import Derived.Test.YtffbachgbcefiaaDoorMkWith
import Derived.Deep.QuietTactic
import Derived.BigQuiet
import Derived.Deep.RegionWith
import Derived.Deep.RegionHeld3
import Derived.Deep.DeepCutAuto
import Derived.Deep.CutBlock
import Derived.Deep.MidRow
namespace Go.Proofs.YtffbachgbcefiaaDoor
open Go.RowKit Plain
set_option linter.unusedVariables false
set_option linter.unusedSimpArgs false

theorem hid {p : Prop} (h : p) : Hid p := h
theorem pheap_lt {w : World} {a : Nat} {o : Obj} (h : w.heap[a]? = some o) : a < w.heap.size := (Array.getElem?_eq_some_iff.1 h).1
theorem pcell_of {w : World} {a : Nat} {cs : Array Value} {t : TypeId} {f : Nat × Nat} (h : w.heap[a]? = some (.cells cs t f)) (j : Nat) : w.cell? ⟨a, j, none⟩ = cs[j]? := by simp [World.cell?, h]
theorem pfrozen_of {w : World} {a : Nat} {cs : Array Value} {t : TypeId} (h : w.heap[a]? = some (.cells cs t (0, 0))) (j : Nat) : w.frozen? ⟨a, j, none⟩ = false := by simp [World.frozen?, h]
theorem pnew_obj (w : World) (cs : Array Value) (t : TypeId) : (w.alloc (.cells cs t)).heap[w.heap.size]? = some (.cells cs t (0, 0)) := by unfold World.alloc; exact Array.getElem?_push_size
/-- a state's cells. -/
def psA (s : PS) : Array Value := #[.int .i64 s.D, .int .u64 (wd s.y 0 : Nat), .int .u64 (wd s.y 1 : Nat), .int .u64 (wd s.y 2 : Nat), .int .u64 (wd s.y 3 : Nat), .int .u64 (wd s.h 0 : Nat), .int .u64 (wd s.h 1 : Nat), .int .u64 (wd s.h 2 : Nat), .int .u64 (wd s.h 3 : Nat), .int .u64 (wd s.k 0 : Nat), .int .u64 (wd s.k 1 : Nat), .int .u64 (wd s.k 2 : Nat), .int .u64 (wd s.k 3 : Nat), .int .u64 (wd s.l 0 : Nat), .int .u64 (wd s.l 1 : Nat), .int .u64 (wd s.l 2 : Nat), .int .u64 (wd s.l 3 : Nat)]
def PV (s : PS) : Value := .agg (psA s)
/-- block b holds the state s. -/
def Bx (w : World) (b : Nat) (s : PS) : Prop := w.heap[b]? = some (.cells (psA s) 30 (0, 0))
theorem Bx.new (w : World) (s : PS) : Bx (w.alloc (.cells (psA s) 30)) w.heap.size s := pnew_obj w _ _
theorem Bx.kept {w w' : World} {b : Nat} {s : PS} (h : Bx w b s) (k : Kp w w') : Bx w' b s := (k.block b (pheap_lt h)).trans h
/-- its cells, one by one. -/
def Bc (V : World) (b : Nat) (s : PS) : Prop :=
  V.cell? ⟨b, 0, none⟩ = some (.int .i64 s.D) ∧ V.cell? ⟨b, 1, none⟩ = some (.int .u64 (wd s.y 0 : Nat)) ∧ V.cell? ⟨b, 2, none⟩ = some (.int .u64 (wd s.y 1 : Nat)) ∧ V.cell? ⟨b, 3, none⟩ = some (.int .u64 (wd s.y 2 : Nat)) ∧ V.cell? ⟨b, 4, none⟩ = some (.int .u64 (wd s.y 3 : Nat)) ∧
  V.cell? ⟨b, 5, none⟩ = some (.int .u64 (wd s.h 0 : Nat)) ∧ V.cell? ⟨b, 6, none⟩ = some (.int .u64 (wd s.h 1 : Nat)) ∧ V.cell? ⟨b, 7, none⟩ = some (.int .u64 (wd s.h 2 : Nat)) ∧ V.cell? ⟨b, 8, none⟩ = some (.int .u64 (wd s.h 3 : Nat)) ∧
  V.cell? ⟨b, 9, none⟩ = some (.int .u64 (wd s.k 0 : Nat)) ∧ V.cell? ⟨b, 10, none⟩ = some (.int .u64 (wd s.k 1 : Nat)) ∧ V.cell? ⟨b, 11, none⟩ = some (.int .u64 (wd s.k 2 : Nat)) ∧ V.cell? ⟨b, 12, none⟩ = some (.int .u64 (wd s.k 3 : Nat)) ∧
  V.cell? ⟨b, 13, none⟩ = some (.int .u64 (wd s.l 0 : Nat)) ∧ V.cell? ⟨b, 14, none⟩ = some (.int .u64 (wd s.l 1 : Nat)) ∧ V.cell? ⟨b, 15, none⟩ = some (.int .u64 (wd s.l 2 : Nat)) ∧ V.cell? ⟨b, 16, none⟩ = some (.int .u64 (wd s.l 3 : Nat))
theorem Bx.cells {w : World} {b : Nat} {s : PS} (h : Bx w b s) : Bc w b s :=
  ⟨pcell_of h 0, pcell_of h 1, pcell_of h 2, pcell_of h 3, pcell_of h 4, pcell_of h 5, pcell_of h 6, pcell_of h 7, pcell_of h 8, pcell_of h 9, pcell_of h 10, pcell_of h 11, pcell_of h 12, pcell_of h 13, pcell_of h 14, pcell_of h 15, pcell_of h 16⟩

set_option maxRecDepth 100000 in
set_option maxHeartbeats 2000000 in
theorem within_any (f g : Nat → Bool) (w : World) : Calls Tryd.prog 36 #[SV f, SV g] w fun e w' => e = .returned (.bool (subB f g)) ∧ Kp w w' := by
  obtain ⟨w0, hw0⟩ : ∃ w0, w0 = (w.alloc (.cells (w4 (wd f)) 28)).alloc (.cells (w4 (wd g)) 28) := ⟨_, rfl⟩
  have a1 : A4 w0 w.heap.size (wd f) := by rw [hw0]; exact (A4.new w _ _).alloc _
  have a2 : A4 w0 (w.heap.size + 1) (wd g) := by
    have := A4.new (w.alloc (.cells (w4 (wd f)) 28)) (wd g) 28
    rw [hw0]
    simpa using this
  have k0 : Kp w w0 := by rw [hw0]; exact ((Kp.refl w).alloc _).alloc _
  have hL := less_any f g w0
  have hE := empty_any (lessF f g)
  have HW : Hid (w0 = (w.alloc (.cells (w4 (wd f)) 28)).alloc (.cells (w4 (wd g)) 28)) := hw0
  obtain ⟨c0, c1, c2, c3⟩ := a1.cells
  obtain ⟨d0, d1, d2, d3⟩ := a2.cells
  have HK := hid k0
  clear hw0 a1 a2 k0
  unfold subB
  unfold SV at hL hE ⊢
  go_enter Tryd.func36, Tryd.ntmps36
  go_wp2_with fail
  rw [show (w.alloc (.cells #[.int .u64 ((wd f 0 : Nat) : Int), .int .u64 ((wd f 1 : Nat) : Int), .int .u64 ((wd f 2 : Nat) : Int), .int .u64 ((wd f 3 : Nat) : Int)] 28)).alloc (.cells #[.int .u64 ((wd g 0 : Nat) : Int), .int .u64 ((wd g 1 : Nat) : Int), .int .u64 ((wd g 2 : Nat) : Int), .int .u64 ((wd g 3 : Nat) : Int)] 28) = w0 from HW.out.symm]
  refine hL.mono ?_; rintro e w1 ⟨rfl, k1⟩
  have HK1 := hid (HK.out.trans k1)
  clear hL k1 HW c0 c1 c2 c3 d0 d1 d2 d3 HK
  go_wp2_with fail
  refine (hE _).mono ?_; rintro e w2 ⟨rfl, k2⟩
  have HK2 := hid (HK1.out.trans k2)
  clear hE k2
  go_wp2
  go_ret
  exact ⟨rfl, HK2.out⟩
set_option maxRecDepth 100000 in
set_option maxHeartbeats 2000000 in
theorem data_any (s : PS) (hD : s.D ≤ 9223372036854775807) (w : World) : Calls Tryd.prog 37 #[PV s] w fun e w' => e = .returned (SV (upF s.D)) ∧ Kp w w' := by
  obtain ⟨w0, hw0⟩ : ∃ w0, w0 = (w.alloc (.cells (psA s) 30)).alloc (.cells (w4 no4) 28) := ⟨_, rfl⟩
  have b0 : Bx w0 w.heap.size s := by rw [hw0]; exact (Bx.new w s).kept ((Kp.refl _).alloc _)
  have a2 : A4 w0 (w.heap.size + 1) no4 := by
    have := A4.new (w.alloc (.cells (psA s) 30)) no4 28
    rw [hw0]
    simpa using this
  have k0 : Kp w w0 := by rw [hw0]; exact ((Kp.refl w).alloc _).alloc _
  have hU := upto_any s.D hD w0
  have HW := hid hw0
  obtain ⟨c0, -⟩ := b0.cells
  have HA := hid (And.intro a2 k0)
  clear hw0 b0 a2 k0
  unfold SV at hU ⊢
  unfold PV
  unfold psA at HW ⊢
  go_enter Tryd.func37, Tryd.ntmps37
  go_wp2_with fail
  rw [show w0 = _ from HW.out] at hU c0 HA
  refine hU.mono ?_; rintro e w1 ⟨rfl, k1⟩
  have a4 := HA.out.1.kept k1
  have HB : Hid (A4 (put4 w1 (w.heap.size + 1) (wd (upF s.D))) (w.heap.size + 1) (wd (upF s.D)) ∧ Kp w (put4 w1 (w.heap.size + 1) (wd (upF s.D)))) := ⟨a4.put _, (HA.out.2.trans k1).put4 (by omega) _⟩
  obtain ⟨d0, d1, d2, d3⟩ := a4.cells
  have z := a4.z
  clear hU k1 HW HA a4 c0
  go_wp2
  refine bodyPost_ret (results_set rfl _ _ (w.heap.size + 1) (wd (upF s.D)) rfl HB.out.1) rfl ?_
  exact ⟨rfl, HB.out.2⟩
set_option maxRecDepth 100000 in
set_option maxHeartbeats 2000000 in
theorem columns_any (s : PS) (hD1 : -9223372036854775808 ≤ s.D) (hD : s.D + 2 ≤ 9223372036854775807) (w : World) : Calls Tryd.prog 38 #[PV s] w fun e w' => e = .returned (SV (upF (s.D + 2))) ∧ Kp w w' := by
  obtain ⟨w0, hw0⟩ : ∃ w0, w0 = (w.alloc (.cells (psA s) 30)).alloc (.cells (w4 no4) 28) := ⟨_, rfl⟩
  have b0 : Bx w0 w.heap.size s := by rw [hw0]; exact (Bx.new w s).kept ((Kp.refl _).alloc _)
  have a2 : A4 w0 (w.heap.size + 1) no4 := by
    have := A4.new (w.alloc (.cells (psA s) 30)) no4 28
    rw [hw0]
    simpa using this
  have k0 : Kp w w0 := by rw [hw0]; exact ((Kp.refl w).alloc _).alloc _
  have hU := upto_any (s.D + 2) hD w0
  have hwr : IntKind.i64.wrap (s.D + 2) = s.D + 2 := by rw [IntKind.wrap_i64]; omega
  have HW := hid hw0
  obtain ⟨c0, -⟩ := b0.cells
  have HA := hid (And.intro a2 k0)
  clear hw0 b0 a2 k0
  unfold SV at hU ⊢
  unfold PV
  unfold psA at HW ⊢
  go_enter Tryd.func38, Tryd.ntmps38
  go_wp2_with fail
  rw [show w0 = _ from HW.out] at hU c0 HA
  refine hU.mono ?_; rintro e w1 ⟨rfl, k1⟩
  have a4 := HA.out.1.kept k1
  have HB : Hid (A4 (put4 w1 (w.heap.size + 1) (wd (upF (s.D + 2)))) (w.heap.size + 1) (wd (upF (s.D + 2))) ∧ Kp w (put4 w1 (w.heap.size + 1) (wd (upF (s.D + 2))))) := ⟨a4.put _, (HA.out.2.trans k1).put4 (by omega) _⟩
  obtain ⟨d0, d1, d2, d3⟩ := a4.cells
  have z := a4.z
  clear hU k1 HW HA a4 c0
  go_wp2
  refine bodyPost_ret (results_set rfl _ _ (w.heap.size + 1) (wd (upF (s.D + 2))) rfl HB.out.1) rfl ?_
  exact ⟨rfl, HB.out.2⟩

/-! ### a state in a block, a set behind it: loads and stores as a walk meets them -/
theorem info_ps : (Tryd.prog.info? 30).map (·.size) = some 17 := by kernel_rfl
theorem Bx.load {w : World} {b : Nat} {s : PS} (h : Bx w b s) : (Instr.loadAt 30 (.pointer (some ⟨b, 0, none⟩))).run Tryd.prog w = .ok (PV s) w := by
  have := run_loadAt_mid (P := Tryd.prog) w b 0 30 (psA s).toList _ (fun j v hj => by rw [pcell_of h, Nat.zero_add]; simpa using hj) Tryd.underlying30 rfl (by rw [info_ps]; rfl)
  exact this
theorem Bx.field {w : World} {b : Nat} {s : PS} (h : Bx w b s) (o : Nat) (f : Nat → Bool) (hc : ∀ k, k < 4 → (psA s)[o + k]? = some (.int .u64 (wd f k : Nat))) : (Instr.loadAt 28 (.pointer (some ⟨b, o, none⟩))).run Tryd.prog w = .ok (SV f) w := by
  have := run_loadAt_mid (P := Tryd.prog) w b o 28 (w4 (wd f)).toList _ (fun j v hj => by
    have hj4 : j < 4 := (List.getElem?_eq_some_iff.1 hj).1
    rw [pcell_of h, hc j hj4]
    rw [Array.getElem?_toList, w4_at (wd f) j hj4] at hj
    exact hj) Tryd.underlying28 rfl (by rw [size_set']; rfl)
  exact this
theorem Bx.ly {w : World} {b : Nat} {s : PS} (h : Bx w b s) : (Instr.loadAt 28 (.pointer (some ⟨b, 1, none⟩))).run Tryd.prog w = .ok (SV s.y) w := h.field 1 s.y (fun k hk => by match k, hk with | 0, _ => rfl | 1, _ => rfl | 2, _ => rfl | 3, _ => rfl)
theorem Bx.lh {w : World} {b : Nat} {s : PS} (h : Bx w b s) : (Instr.loadAt 28 (.pointer (some ⟨b, 5, none⟩))).run Tryd.prog w = .ok (SV s.h) w := h.field 5 s.h (fun k hk => by match k, hk with | 0, _ => rfl | 1, _ => rfl | 2, _ => rfl | 3, _ => rfl)
theorem Bx.lk {w : World} {b : Nat} {s : PS} (h : Bx w b s) : (Instr.loadAt 28 (.pointer (some ⟨b, 9, none⟩))).run Tryd.prog w = .ok (SV s.k) w := h.field 9 s.k (fun k hk => by match k, hk with | 0, _ => rfl | 1, _ => rfl | 2, _ => rfl | 3, _ => rfl)
theorem Bx.ll {w : World} {b : Nat} {s : PS} (h : Bx w b s) : (Instr.loadAt 28 (.pointer (some ⟨b, 13, none⟩))).run Tryd.prog w = .ok (SV s.l) w := h.field 13 s.l (fun k hk => by match k, hk with | 0, _ => rfl | 1, _ => rfl | 2, _ => rfl | 3, _ => rfl)
theorem A4.load {w : World} {b : Nat} {f : Nat → Bool} (h : A4 w b (wd f)) : (Instr.loadAt 28 (.pointer (some ⟨b, 0, none⟩))).run Tryd.prog w = .ok (SV f) w := by
  simp only [Instr.loadAt, Instr.sureAddr, Sem.run_bind, Sem.run_pure, Result.andThen_ok, load_a4 h 28 _ Tryd.underlying28 size_set']
  rfl
theorem A4.there {w : World} {b : Nat} {v : Nat → Nat} (h : A4 w b v) : w.there b 0 4 := fun j hj => by
  rw [Nat.zero_add]
  exact ⟨by rw [h.c j hj]; rfl, h.z j⟩
theorem A4.store {w : World} {b : Nat} {v : Nat → Nat} (h : A4 w b v) (f : Nat → Bool) : (Instr.storeAt 28 (.pointer (some ⟨b, 0, none⟩)) (SV f)).run Tryd.prog w = .ok () (put4 w b (wd f)) := by
  have := run_storeAt_mid (P := Tryd.prog) w b 0 28 (w4 (wd f)) h.there (by rw [size_set']; rfl) (by simp [w4, Value.oneCell'])
  exact this

/-! the same as a walk's simp leaves them. -/
theorem load_from {w : World} {b o n : Nat} {cs : Array Value} (hn : cs.size = n) (h : ∀ j v, cs[j]? = some v → w.cell? ⟨b, o + j, none⟩ = some v) : (loadCellsFrom ⟨b, o, none⟩ 0 n #[]).run Tryd.prog w = .ok cs w := by
  subst hn
  have := run_loadCells_list (P := Tryd.prog) w ⟨b, o, none⟩ cs.toList (fun j v hv => by
    rw [Addr.add_mid]
    exact h j v (by simpa using hv))
  simpa [loadCells] using this
theorem Bx.lc0 {w : World} {b : Nat} {s : PS} (h : Bx w b s) : (loadCellsFrom ⟨b, 0, none⟩ 0 17 #[]).run Tryd.prog w = .ok (psA s) w := load_from rfl (fun j v hj => by rw [pcell_of h, Nat.zero_add, hj])
theorem Bx.lcf {w : World} {b : Nat} {s : PS} (h : Bx w b s) (o : Nat) (f : Nat → Bool) (hc : ∀ k, k < 4 → (psA s)[o + k]? = some (.int .u64 (wd f k : Nat))) : (loadCellsFrom ⟨b, o, none⟩ 0 4 #[]).run Tryd.prog w = .ok (w4 (wd f)) w := load_from rfl (fun j v hj => by
  have hj4 : j < 4 := (Array.getElem?_eq_some_iff.1 hj).1
  rw [pcell_of h, hc j hj4, ← hj, w4_at (wd f) j hj4])
theorem Bx.lcy {w : World} {b : Nat} {s : PS} (h : Bx w b s) : (loadCellsFrom ⟨b, 1, none⟩ 0 4 #[]).run Tryd.prog w = .ok (w4 (wd s.y)) w := h.lcf 1 s.y (fun k hk => by match k, hk with | 0, _ => rfl | 1, _ => rfl | 2, _ => rfl | 3, _ => rfl)
theorem Bx.lch {w : World} {b : Nat} {s : PS} (h : Bx w b s) : (loadCellsFrom ⟨b, 5, none⟩ 0 4 #[]).run Tryd.prog w = .ok (w4 (wd s.h)) w := h.lcf 5 s.h (fun k hk => by match k, hk with | 0, _ => rfl | 1, _ => rfl | 2, _ => rfl | 3, _ => rfl)
theorem Bx.lck {w : World} {b : Nat} {s : PS} (h : Bx w b s) : (loadCellsFrom ⟨b, 9, none⟩ 0 4 #[]).run Tryd.prog w = .ok (w4 (wd s.k)) w := h.lcf 9 s.k (fun k hk => by match k, hk with | 0, _ => rfl | 1, _ => rfl | 2, _ => rfl | 3, _ => rfl)
theorem Bx.lcl {w : World} {b : Nat} {s : PS} (h : Bx w b s) : (loadCellsFrom ⟨b, 13, none⟩ 0 4 #[]).run Tryd.prog w = .ok (w4 (wd s.l)) w := h.lcf 13 s.l (fun k hk => by match k, hk with | 0, _ => rfl | 1, _ => rfl | 2, _ => rfl | 3, _ => rfl)
theorem A4.lc {w : World} {b : Nat} {v : Nat → Nat} (h : A4 w b v) : (loadCellsFrom ⟨b, 0, none⟩ 0 4 #[]).run Tryd.prog w = .ok (w4 v) w := load_from rfl (fun j x hj => by
  have hj4 : j < 4 := (Array.getElem?_eq_some_iff.1 hj).1
  rw [Nat.zero_add, h.c j hj4, ← hj, w4_at v j hj4])
theorem A4.sc {w : World} {b : Nat} {v : Nat → Nat} (h : A4 w b v) (u : Nat → Nat) : (storeCells ⟨b, 0, none⟩ (w4 u).toList 0).run Tryd.prog w = .ok () (put4 w b u) := by
  have := run_storeCells_cells (P := Tryd.prog) b 0 (w4 u).toList 0 w (fun j hj => by simpa using (h.there j (by simpa [w4] using hj)).1) (fun j hj => by simpa using (h.there j (by simpa [w4] using hj)).2) (by simp [w4, Value.oneCell'])
  exact this

/-! ### what a region that draws its order takes first, what it stores; results -/
theorem yl_ps {ops : Array Oper} {S : World → Prop} {op : Oper} {a : Act} {b : Nat} {s : PS} {x : Operand} (hw : Region.wanted op (yielded ops a.tmps) = true) (ho : op.op = .load 30 x)
    (hx : a.eval x = .pointer (some ⟨b, 0, none⟩)) (hS : ∀ w, S w → Bx w b s) : YieldsIf Tryd.prog ops S op (PV s) a :=
  yieldsIf_load_mid hw _ x ho b 0 hx (psA s).toList _ (fun w h j v hj => by rw [pcell_of (hS w h), Nat.zero_add]; simpa using hj) Tryd.underlying30 rfl (by rw [info_ps]; rfl)
theorem yl_set {ops : Array Oper} {S : World → Prop} {op : Oper} {a : Act} {b o : Nat} {f : Nat → Bool} {x : Operand} (hw : Region.wanted op (yielded ops a.tmps) = true) (ho : op.op = .load 28 x)
    (hx : a.eval x = .pointer (some ⟨b, o, none⟩)) (hS : ∀ w, S w → w.rangeAt b o (w4 (wd f)).toList) : YieldsIf Tryd.prog ops S op (SV f) a :=
  yieldsIf_load_mid hw _ x ho b o hx (w4 (wd f)).toList _ hS Tryd.underlying28 rfl (by rw [size_set']; rfl)
theorem Bx.rf {w : World} {b : Nat} {s : PS} (h : Bx w b s) (o : Nat) (f : Nat → Bool) (hc : ∀ k, k < 4 → (psA s)[o + k]? = some (.int .u64 (wd f k : Nat))) : w.rangeAt b o (w4 (wd f)).toList := fun j v hj => by
  have hj4 : j < 4 := (List.getElem?_eq_some_iff.1 hj).1
  rw [pcell_of h, hc j hj4]
  rw [Array.getElem?_toList, w4_at (wd f) j hj4] at hj
  exact hj
theorem Bx.ry {w : World} {b : Nat} {s : PS} (h : Bx w b s) : w.rangeAt b 1 (w4 (wd s.y)).toList := h.rf 1 s.y (fun k hk => by match k, hk with | 0, _ => rfl | 1, _ => rfl | 2, _ => rfl | 3, _ => rfl)
theorem Bx.rh {w : World} {b : Nat} {s : PS} (h : Bx w b s) : w.rangeAt b 5 (w4 (wd s.h)).toList := h.rf 5 s.h (fun k hk => by match k, hk with | 0, _ => rfl | 1, _ => rfl | 2, _ => rfl | 3, _ => rfl)
theorem Bx.rk {w : World} {b : Nat} {s : PS} (h : Bx w b s) : w.rangeAt b 9 (w4 (wd s.k)).toList := h.rf 9 s.k (fun k hk => by match k, hk with | 0, _ => rfl | 1, _ => rfl | 2, _ => rfl | 3, _ => rfl)
theorem Bx.rl {w : World} {b : Nat} {s : PS} (h : Bx w b s) : w.rangeAt b 13 (w4 (wd s.l)).toList := h.rf 13 s.l (fun k hk => by match k, hk with | 0, _ => rfl | 1, _ => rfl | 2, _ => rfl | 3, _ => rfl)
theorem A4.range {w : World} {b : Nat} {v : Nat → Nat} (h : A4 w b v) : w.rangeAt b 0 (w4 v).toList := fun j x hj => by
  have hj4 : j < 4 := (List.getElem?_eq_some_iff.1 hj).1
  rw [Nat.zero_add, h.c j hj4]
  rw [Array.getElem?_toList, w4_at v j hj4] at hj
  exact hj
theorem wp_store_set {op : Oper} {a : Act} {w : World} {K : Act → World → Prop} {Q : Exit → Act → World → Prop} {x y : Operand} {b : Nat} {v : Nat → Nat} {f : Nat → Bool} (hd : op.dst = none) (ho : op.op = .store 28 x y) (hx : a.eval x = .pointer (some ⟨b, 0, none⟩)) (hy : a.eval y = SV f) (hA : A4 w b v)
    (h : K a (put4 w b (wd f))) : op.wp Tryd.prog a w K Q := by
  refine wp_store_mid 28 x y ho b 0 (w4 (wd f)) hx hy hA.there (by rw [size_set']; rfl) (by simp [w4, Value.oneCell']) ?_
  rw [hd]
  exact h
theorem res_cell {fn : Func} {t : Tmp} {ty : TypeId} {d : TypeDesc} (h : fn.results = #[.cell t ty]) (tmps : Array Value) (w : World) (b : Nat) (cs : Array Value) (hp : tmps.getD t undef = .pointer (some ⟨b, 0, none⟩)) (hr : w.rangeAt b 0 cs.toList)
    (hu : Tryd.prog.underlying ty = some d) (hd : d.isRow = true) (hi : (Tryd.prog.info? ty).map (·.size) = some cs.size) : (results fn tmps).run Tryd.prog w = .ok (.agg cs) w := by
  have hp' : tmps[t]?.getD undef = .pointer (some ⟨b, 0, none⟩) := by simpa using hp
  simp [results, h, hp', asAddr, run_loadVar_mid w b 0 ty cs.toList _ hr hu hd hi]
theorem res_cell_tmp {fn : Func} {t u : Tmp} {ty : TypeId} {d : TypeDesc} (h : fn.results = #[.cell t ty, .tmp u]) (tmps : Array Value) (w : World) (b : Nat) (cs : Array Value) {v : Value} (hp : tmps.getD t undef = .pointer (some ⟨b, 0, none⟩)) (hv : tmps.getD u undef = v) (hr : w.rangeAt b 0 cs.toList)
    (hu : Tryd.prog.underlying ty = some d) (hd : d.isRow = true) (hi : (Tryd.prog.info? ty).map (·.size) = some cs.size) : (results fn tmps).run Tryd.prog w = .ok (.tuple #[.agg cs, v]) w := by
  have hp' : tmps[t]?.getD undef = .pointer (some ⟨b, 0, none⟩) := by simpa using hp
  have hv' : tmps[u]?.getD undef = v := by simpa using hv
  simp [results, h, hp', hv', asAddr, run_loadVar_mid w b 0 ty cs.toList _ hr hu hd hi]
theorem res_cell_cell {fn : Func} {t u : Tmp} {ty ty2 : TypeId} {d d2 : TypeDesc} (h : fn.results = #[.cell t ty, .cell u ty2]) (tmps : Array Value) (w : World) (b c : Nat) (cs cs2 : Array Value) (hp : tmps.getD t undef = .pointer (some ⟨b, 0, none⟩)) (hv : tmps.getD u undef = .pointer (some ⟨c, 0, none⟩)) (hr : w.rangeAt b 0 cs.toList) (hr2 : w.rangeAt c 0 cs2.toList)
    (hu : Tryd.prog.underlying ty = some d) (hd : d.isRow = true) (hi : (Tryd.prog.info? ty).map (·.size) = some cs.size) (hu2 : Tryd.prog.underlying ty2 = some d2) (hd2 : d2.isRow = true) (hi2 : (Tryd.prog.info? ty2).map (·.size) = some cs2.size) : (results fn tmps).run Tryd.prog w = .ok (.tuple #[.agg cs, .agg cs2]) w := by
  have hp' : tmps[t]?.getD undef = .pointer (some ⟨b, 0, none⟩) := by simpa using hp
  have hv' : tmps[u]?.getD undef = .pointer (some ⟨c, 0, none⟩) := by simpa using hv
  simp [results, h, hp', hv', asAddr, run_loadVar_mid w b 0 ty cs.toList _ hr hu hd hi, run_loadVar_mid w c 0 ty2 cs2.toList _ hr2 hu2 hd2 hi2]

/-! ### two sets compared -/
theorem eq_type : Tryd.prog.eqGuardType Tryd.prog.depth 28 = false := by kernel_rfl
theorem eq_guard (f g : Nat → Bool) (x y : Operand) (w : World) : (eqGuard BinOp.eql 28 x y (SV f) (SV g)).run Tryd.prog w = .ok () w := by
  have h := eq_type
  unfold SV
  go_simp
theorem eq_bin (f g : Nat → Bool) (w : World) : (binOp BinOp.eql 28 (SV f) (SV g)).run Tryd.prog w = .ok (.bool (eqB f g)) w := by
  have h := eqS f g w
  unfold SV at h ⊢
  go_simp

/-- in a region that draws its order: the one operation that may come is the store of a set. -/
theorem wpAnyH_store_set {ops : Array Oper} {Q : Exit → Act → World → Prop} {md : Region.Mode} {S : World → Prop} {fuel : Nat} {listed : Array Bool} {a : Act} {w : World} (i : Nat) {o : Oper} {x y : Operand} {b : Nat} {v : Nat → Nat} (f : Nat → Bool)
    (hr : Region.ready md ops listed = [i]) (ho : ops[i]? = some o) (hw : Region.wanted o (yielded ops a.tmps) = true) (hd : o.dst = none) (hop : o.op = .store 28 x y) (hx : a.eval x = .pointer (some ⟨b, 0, none⟩)) (hy : a.eval y = SV f) (hA : A4 w b v)
    (hS : S (put4 w b (wd f))) (h : S (put4 w b (wd f)) → wpAnyH Tryd.prog md ops Q S fuel (listed.setIfInBounds i true) a (put4 w b (wd f))) : wpAnyH Tryd.prog md ops Q S (fuel + 1) listed a w := by
  refine wpAnyH_ready (rs := [i]) hr (by simp) ?_
  refine AllReadyH.cons ho ?_ AllReadyH.nil
  intro K hK
  rw [if_pos hw]
  refine wp_store_set hd hop hx hy hA ?_
  exact hK.out _ _ hS h

/-- an operation taken first, its slot named. -/
theorem wpAnyH_takeD {P : Program} {ops : Array Oper} {Q : Exit → Act → World → Prop} {md : Region.Mode} {S : World → Prop} {i : Nat} {oi : Oper} {v : Value} {fuel : Nat} {listed : Array Bool} {a : Act} {w : World} (d : Tmp) (hi : ops[i]? = some oi) (hd : oi.dst = some d)
    (hs : Region.noSelect ops = true) (hf : Region.free md ops listed i = true) (hr : (Region.ready md ops listed).contains i = true)
    (hQ : ∀ c a w, Q (.panic c) (a.put oi.dst v) w → Q (.panic c) a w) (hy : YieldsIf P ops S oi v a) (hS : S w)
    (h : wpAnyH P md ops Q S fuel (listed.setIfInBounds i true) ⟨a.tmps.setIfInBounds d v, a.defers⟩ w) : wpAnyH P md ops Q S (fuel + 1) listed a w := by
  refine wpAnyH_take hi hs hf hr hQ hy hS ?_
  rw [hd]
  exact h

theorem yl_d {ops : Array Oper} {S : World → Prop} {op : Oper} {a : Act} {b : Nat} {s : PS} {x : Operand} (hw : Region.wanted op (yielded ops a.tmps) = true) (ho : op.op = .load 3 x)
    (hx : a.eval x = .pointer (some ⟨b, 0, none⟩)) (hS : ∀ w, S w → Bx w b s) : YieldsIf Tryd.prog ops S op (.int .i64 s.D) a := by
  refine .inl ⟨hw, fun w h => ?_⟩
  have hc := (hS w h).cells.1
  unfold execOp
  rw [ho]
  simp only [hx]
  go_simp

end Go.Proofs.YtffbachgbcefiaaDoor
