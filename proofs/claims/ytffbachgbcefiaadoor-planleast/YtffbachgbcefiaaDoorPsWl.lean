/-
  A state, a set loaded and a set stored, in a region without orders; a plan put together. No condition.
-/
import Derived.Test.YtffbachgbcefiaaDoorPsRow
namespace Go.Proofs.YtffbachgbcefiaaDoor
open Go.RowKit Plain
set_option linter.unusedVariables false

theorem wl_ps {ops : Array Oper} {rest : List Oper} {op : Oper} {a : Act} {w : World} {Q : Exit → Act → World → Prop} (hgd : op.guard = none) {x : Operand} (ho : op.op = .load 30 x) {b : Nat} {s : PS} (hx : a.eval x = .pointer (some ⟨b, 0, none⟩)) (hb : Bx w b s)
    (h : wpList Tryd.prog ops Q rest (a.put op.dst (PV s)) w) : wpList Tryd.prog ops Q (op :: rest) a w :=
  wpList_load_mid hgd _ x ho b 0 hx (psA s).toList _ (fun j v hj => by rw [pcell_of hb, Nat.zero_add]; simpa using hj) Tryd.underlying30 rfl (by rw [info_ps]; rfl) h
theorem wl_set {ops : Array Oper} {rest : List Oper} {op : Oper} {a : Act} {w : World} {Q : Exit → Act → World → Prop} (hgd : op.guard = none) {x : Operand} (ho : op.op = .load 28 x) {b o : Nat} {f : Nat → Bool} (hx : a.eval x = .pointer (some ⟨b, o, none⟩)) (hb : w.rangeAt b o (w4 (wd f)).toList)
    (h : wpList Tryd.prog ops Q rest (a.put op.dst (SV f)) w) : wpList Tryd.prog ops Q (op :: rest) a w :=
  wpList_load_mid hgd _ x ho b o hx (w4 (wd f)).toList _ hb Tryd.underlying28 rfl (by rw [size_set']; rfl) h
theorem wl_put {ops : Array Oper} {rest : List Oper} {op : Oper} {a : Act} {w : World} {Q : Exit → Act → World → Prop} (hgd : op.guard = none) (hd : op.dst = none) {x y : Operand} (ho : op.op = .store 28 x y) {b : Nat} {v : Nat → Nat} {f : Nat → Bool} (hx : a.eval x = .pointer (some ⟨b, 0, none⟩)) (hy : a.eval y = SV f) (hA : A4 w b v)
    (h : wpList Tryd.prog ops Q rest a (put4 w b (wd f))) : wpList Tryd.prog ops Q (op :: rest) a w := by
  refine wpList_store_mid hgd 28 x y ho b 0 (w4 (wd f)) hx hy hA.there (by rw [size_set']; rfl) (by simp [w4, Value.oneCell']) ?_
  rw [hd]
  exact h
theorem wl_pload {ops : Array Oper} {rest : List Oper} {op : Oper} {a : Act} {w : World} {Q : Exit → Act → World → Prop} (hgd : op.guard = none) {x : Operand} (ho : op.op = .load 45 x) {b o : Nat} {p : Pn} (hx : a.eval x = .pointer (some ⟨b, o, none⟩)) (hb : w.rangeAt b o (pA p).toList)
    (h : wpList Tryd.prog ops Q rest (a.put op.dst (pV p)) w) : wpList Tryd.prog ops Q (op :: rest) a w :=
  wpList_load_mid hgd _ x ho b o hx (pA p).toList _ hb Tryd.underlying45 rfl (by rw [psize]; rfl) h
theorem wl_rload {ops : Array Oper} {rest : List Oper} {op : Oper} {a : Act} {w : World} {Q : Exit → Act → World → Prop} (hgd : op.guard = none) {x : Operand} (ho : op.op = .load 49 x) {b o : Nat} {p : Pn} (hx : a.eval x = .pointer (some ⟨b, o, none⟩)) (hb : w.rangeAt b o (rA p).toList)
    (h : wpList Tryd.prog ops Q rest (a.put op.dst (rV p)) w) : wpList Tryd.prog ops Q (op :: rest) a w :=
  wpList_load_mid hgd _ x ho b o hx (rA p).toList _ hb Tryd.underlying49 rfl (by rw [rsize]; rfl) h
theorem there_of {w : World} {b o n : Nat} {cs : List Value} (hl : cs.length = n) (hr : w.rangeAt b o cs) (hz : ∀ j, w.frozen? ⟨b, j, none⟩ = false) : w.there b o n := fun j hj => by
  have : cs[j]? = some cs[j] := List.getElem?_eq_getElem (by omega)
  exact ⟨by rw [hr j _ this]; rfl, hz _⟩
theorem wl_pstore {ops : Array Oper} {rest : List Oper} {op : Oper} {a : Act} {w : World} {Q : Exit → Act → World → Prop} (hgd : op.guard = none) (hd : op.dst = none) {x y : Operand} (ho : op.op = .store 45 x y) {b : Nat} {p : Pn} (hx : a.eval x = .pointer (some ⟨b, 0, none⟩)) (hy : a.eval y = pV p) (hA : w.there b 0 5)
    (h : wpList Tryd.prog ops Q rest a (w.setCells b 0 (pA p).toList)) : wpList Tryd.prog ops Q (op :: rest) a w := by
  refine wpList_store_mid hgd 45 x y ho b 0 (pA p) hx hy hA (by rw [psize]; rfl) (Array.all_eq_true_iff_forall_mem.2 fun v hv => pA_one p v (by simpa using hv)) ?_
  rw [hd]
  exact h
theorem wl_rstore {ops : Array Oper} {rest : List Oper} {op : Oper} {a : Act} {w : World} {Q : Exit → Act → World → Prop} (hgd : op.guard = none) (hd : op.dst = none) {x y : Operand} (ho : op.op = .store 49 x y) {b : Nat} {p : Pn} (hx : a.eval x = .pointer (some ⟨b, 0, none⟩)) (hy : a.eval y = rV p) (hA : w.there b 0 33)
    (h : wpList Tryd.prog ops Q rest a (w.setCells b 0 (rA p).toList)) : wpList Tryd.prog ops Q (op :: rest) a w := by
  refine wpList_store_mid hgd 49 x y ho b 0 (rA p) hx hy hA (by rw [rsize]; rfl) (Array.all_eq_true_iff_forall_mem.2 fun v hv => rA_one p v (by simpa using hv)) ?_
  rw [hd]
  exact h
theorem build_plan (k : Nat) (f : Nat → Bool) (w : World) : (Instr.build 45 #[(0, .int .i64 k), (1, SV f)]).run Tryd.prog w = .ok (pV (k, f)) w := run_build w 45 _ _ (by kernel_rfl)
theorem wl_bplan {ops : Array Oper} {rest : List Oper} {op : Oper} {a : Act} {w : World} {Q : Exit → Act → World → Prop} (hgd : op.guard = none) {x y : Operand} (ho : op.op = .build 45 #[(0, x), (1, y)]) (p : Pn) (hx : a.eval x = .int .i64 p.1) (hy : a.eval y = SV p.2)
    (h : wpList Tryd.prog ops Q rest (a.put op.dst (pV p)) w) : wpList Tryd.prog ops Q (op :: rest) a w := by
  have hr := build_plan p.1 p.2 w
  refine wpList_plain hgd fun K hK' => ?_
  unfold Oper.wp execOp
  simp only [ho]
  simp [hx, hy, hr]
  exact hK' _ _ h
theorem World.size_setCells (w : World) (b o : Nat) (cs : List Value) : (w.setCells b o cs).heap.size = w.heap.size := by
  induction cs generalizing w o with
  | nil => rfl
  | cons v r ih => rw [World.setCells, ih]; simp [World.setCell]
theorem World.cell?_setCells_block (w : World) (c o : Nat) (cs : List Value) (b j : Nat) (h : b ≠ c) : (w.setCells c o cs).cell? ⟨b, j, none⟩ = w.cell? ⟨b, j, none⟩ := by
  induction cs generalizing w o with
  | nil => rfl
  | cons v r ih => rw [World.setCells, ih, World.cell?_setCell_other _ _ _ _ (by intro e; cases e; exact h rfl)]
theorem kp_setCells {w W : World} (h : Kp w W) (b o : Nat) (hb : w.heap.size ≤ b) (cs : List Value) : Kp w (W.setCells b o cs) := by
  induction cs generalizing W o with
  | nil => exact h
  | cons v r ih => exact ih (h.set hb o v) (o + 1)
/-- a block of the call's own holds a plan. -/
structure Px (w : World) (b : Nat) (p : Pn) : Prop where
  lt : b < w.heap.size
  range : w.rangeAt b 0 (pA p).toList
  z : ∀ j, w.frozen? ⟨b, j, none⟩ = false
theorem Px.of_block {w w' : World} {b : Nat} {p : Pn} (h : Px w b p) (hk : w'.heap[b]? = w.heap[b]?) (hs : w.heap.size ≤ w'.heap.size) : Px w' b p :=
  ⟨Nat.lt_of_lt_of_le h.lt hs, fun j v hj => by rw [show w'.cell? ⟨b, 0 + j, none⟩ = w.cell? ⟨b, 0 + j, none⟩ by simp [World.cell?, hk]]; exact h.range j v hj, fun j => by rw [show w'.frozen? ⟨b, j, none⟩ = w.frozen? ⟨b, j, none⟩ by simp [World.frozen?, hk]]; exact h.z j⟩
theorem Px.kept {w w' : World} {b : Nat} {p : Pn} (h : Px w b p) (k : Kp w w') : Px w' b p := h.of_block (k.block b h.lt) k.size
theorem Px.new (w : World) (p : Pn) : Px (w.alloc (.cells (pA p) 45)) w.heap.size p :=
  ⟨by simp, fun j v hj => by rw [pcell_of (pnew_obj w _ _), Nat.zero_add]; simpa using hj, fun j => pfrozen_of (pnew_obj w _ _) j⟩
theorem Px.there {w : World} {b : Nat} {p : Pn} (h : Px w b p) : w.there b 0 5 := there_of (pA_len p) h.range h.z
theorem Px.set {w : World} {b : Nat} {p : Pn} (h : Px w b p) (q : Pn) : Px (w.setCells b 0 (pA q).toList) b q :=
  ⟨by rw [World.size_setCells]; exact h.lt, World.rangeAt_setCells_same w b 0 (pA q).toList (by rw [pA_len]; exact h.there), fun j => by rw [World.frozen?_setCells]; exact h.z j⟩
theorem Px.far {w : World} {b c : Nat} {p : Pn} (h : Px w b p) (hb : b ≠ c) (o : Nat) (cs : List Value) : Px (w.setCells c o cs) b p :=
  ⟨by rw [World.size_setCells]; exact h.lt, fun j v hj => by rw [World.cell?_setCells_block w c o cs b (0 + j) hb]; exact h.range j v hj, fun j => by rw [World.frozen?_setCells]; exact h.z j⟩
/-- a block of the call's own holds a plan. -/
structure Rx (w : World) (b : Nat) (p : Pn) : Prop where
  lt : b < w.heap.size
  range : w.rangeAt b 0 (rA p).toList
  z : ∀ j, w.frozen? ⟨b, j, none⟩ = false
theorem Rx.of_block {w w' : World} {b : Nat} {p : Pn} (h : Rx w b p) (hk : w'.heap[b]? = w.heap[b]?) (hs : w.heap.size ≤ w'.heap.size) : Rx w' b p :=
  ⟨Nat.lt_of_lt_of_le h.lt hs, fun j v hj => by rw [show w'.cell? ⟨b, 0 + j, none⟩ = w.cell? ⟨b, 0 + j, none⟩ by simp [World.cell?, hk]]; exact h.range j v hj, fun j => by rw [show w'.frozen? ⟨b, j, none⟩ = w.frozen? ⟨b, j, none⟩ by simp [World.frozen?, hk]]; exact h.z j⟩
theorem Rx.kept {w w' : World} {b : Nat} {p : Pn} (h : Rx w b p) (k : Kp w w') : Rx w' b p := h.of_block (k.block b h.lt) k.size
theorem Rx.new (w : World) (p : Pn) : Rx (w.alloc (.cells (rA p) 49)) w.heap.size p :=
  ⟨by simp, fun j v hj => by rw [pcell_of (pnew_obj w _ _), Nat.zero_add]; simpa using hj, fun j => pfrozen_of (pnew_obj w _ _) j⟩
theorem Rx.there {w : World} {b : Nat} {p : Pn} (h : Rx w b p) : w.there b 0 33 := there_of (rA_len p) h.range h.z
theorem Rx.set {w : World} {b : Nat} {p : Pn} (h : Rx w b p) (q : Pn) : Rx (w.setCells b 0 (rA q).toList) b q :=
  ⟨by rw [World.size_setCells]; exact h.lt, World.rangeAt_setCells_same w b 0 (rA q).toList (by rw [rA_len]; exact h.there), fun j => by rw [World.frozen?_setCells]; exact h.z j⟩
theorem Rx.far {w : World} {b c : Nat} {p : Pn} (h : Rx w b p) (hb : b ≠ c) (o : Nat) (cs : List Value) : Rx (w.setCells c o cs) b p :=
  ⟨by rw [World.size_setCells]; exact h.lt, fun j v hj => by rw [World.cell?_setCells_block w c o cs b (0 + j) hb]; exact h.range j v hj, fun j => by rw [World.frozen?_setCells]; exact h.z j⟩

end Go.Proofs.YtffbachgbcefiaaDoor
