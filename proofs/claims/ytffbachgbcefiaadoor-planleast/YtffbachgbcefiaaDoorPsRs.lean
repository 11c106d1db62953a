/-
  The document's state and the laws' plain data in memory. No condition.
-/
import Derived.Test.YtffbachgbcefiaaDoorPsBits
namespace Go.Proofs.YtffbachgbcefiaaDoor
open Go.RowKit Plain
set_option linter.unusedVariables false
set_option linter.unusedSimpArgs false

/-- a state as plain data. -/
structure RX where
  D : Int
  y : Nat
  h : Nat
  k : Nat
  l : Nat
structure RX.Ok (x : RX) : Prop where
  d1 : -9223372036854775808 ≤ x.D
  d2 : x.D ≤ 9223372036854775807
  y : x.y < 18446744073709551616
  h : x.h < 18446744073709551616
  k : x.k < 18446744073709551616
  l : x.l < 18446744073709551616
def RX.ps (x : RX) : PS := ⟨x.D, bt x.y, bt x.h, bt x.k, bt x.l⟩
def rxA (x : RX) : Array Value := #[.int .i64 x.D, .int .u64 (x.y : Nat), .int .u64 (x.h : Nat), .int .u64 (x.k : Nat), .int .u64 (x.l : Nat)]
def rxV (x : RX) : Value := .agg (rxA x)
theorem rx_size : (Tryd.prog.info? 24).map (·.size) = some 5 := by kernel_rfl
theorem rxA_one (x : RX) : ∀ u ∈ (rxA x).toList, u.oneCell' = true := by simp [rxA, Value.oneCell']
/-- plain data in a block. -/
structure Rw (w : World) (b : Nat) (x : RX) : Prop where
  lt : b < w.heap.size
  range : w.rangeAt b 0 (rxA x).toList
  z : ∀ j, w.frozen? ⟨b, j, none⟩ = false
theorem Rw.of_block {w w' : World} {b : Nat} {x : RX} (h : Rw w b x) (hk : w'.heap[b]? = w.heap[b]?) (hs : w.heap.size ≤ w'.heap.size) : Rw w' b x :=
  ⟨Nat.lt_of_lt_of_le h.lt hs, fun j v hj => by rw [show w'.cell? ⟨b, 0 + j, none⟩ = w.cell? ⟨b, 0 + j, none⟩ by simp [World.cell?, hk]]; exact h.range j v hj, fun j => by rw [show w'.frozen? ⟨b, j, none⟩ = w.frozen? ⟨b, j, none⟩ by simp [World.frozen?, hk]]; exact h.z j⟩
theorem Rw.kept {w w' : World} {b : Nat} {x : RX} (h : Rw w b x) (k : Kp w w') : Rw w' b x := h.of_block (k.block b h.lt) k.size
theorem Rw.far {w : World} {b c : Nat} {x : RX} (h : Rw w b x) (hb : b ≠ c) (o : Nat) (cs : List Value) : Rw (w.setCells c o cs) b x :=
  ⟨by rw [World.size_setCells]; exact h.lt, fun j v hj => by rw [World.cell?_setCells_block w c o cs b (0 + j) hb]; exact h.range j v hj, fun j => by rw [World.frozen?_setCells]; exact h.z j⟩
theorem Rw.new (w : World) (x : RX) : Rw (w.alloc (.cells (rxA x) 24)) w.heap.size x :=
  ⟨by simp, fun j v hj => by rw [pcell_of (pnew_obj w _ _), Nat.zero_add]; simpa using hj, fun j => pfrozen_of (pnew_obj w _ _) j⟩
theorem Rw.c {w : World} {b : Nat} {x : RX} (h : Rw w b x) : w.cell? ⟨b, 0, none⟩ = some (.int .i64 x.D) ∧ w.cell? ⟨b, 1, none⟩ = some (.int .u64 (x.y : Nat)) ∧ w.cell? ⟨b, 2, none⟩ = some (.int .u64 (x.h : Nat)) ∧ w.cell? ⟨b, 3, none⟩ = some (.int .u64 (x.k : Nat)) ∧ w.cell? ⟨b, 4, none⟩ = some (.int .u64 (x.l : Nat)) :=
  ⟨h.range 0 _ rfl, h.range 1 _ rfl, h.range 2 _ rfl, h.range 3 _ rfl, h.range 4 _ rfl⟩

/-! ### the document's state -/
def rsL (D : Int) (y h k l : Nat → Bool) (o : Bool) : List Value := .int .i64 D :: ((b32A y).toList ++ ((b32A h).toList ++ ((b32A k).toList ++ ((b32A l).toList ++ [.bool o]))))
theorem rsL_len (D : Int) (y h k l : Nat → Bool) (o : Bool) : (rsL D y h k l o).length = 130 := by unfold rsL; simp [b32_sz]
def rsA (D : Int) (y h k l : Nat → Bool) (o : Bool) : Array Value := (rsL D y h k l o).toArray
theorem rs_size : (Tryd.prog.info? 33).map (·.size) = some 130 := by kernel_rfl
theorem rsA_sz (D : Int) (y h k l : Nat → Bool) (o : Bool) : (rsA D y h k l o).size = 130 := by unfold rsA; rw [List.size_toArray, rsL_len]
theorem rsL_one (D : Int) (y h k l : Nat → Bool) (o : Bool) : ∀ u ∈ rsL D y h k l o, u.oneCell' = true := by
  intro u hu
  unfold rsL at hu
  simp only [List.mem_cons, List.mem_append, List.not_mem_nil, or_false] at hu
  rcases hu with rfl | hu | hu | hu | hu | rfl
  · rfl
  · exact b32_one _ _ hu
  · exact b32_one _ _ hu
  · exact b32_one _ _ hu
  · exact b32_one _ _ hu
  · rfl
theorem rangeAt_cons {w : World} {b o : Nat} {x : Value} {l : List Value} : w.rangeAt b o (x :: l) ↔ w.cell? ⟨b, o, none⟩ = some x ∧ w.rangeAt b (o + 1) l := by
  constructor
  · intro h
    exact ⟨h 0 x rfl, fun j v hj => by rw [show o + 1 + j = o + (j + 1) by omega]; exact h (j + 1) v hj⟩
  · rintro ⟨h1, h2⟩ j v hj
    match j, hj with
    | 0, hj => rw [Nat.add_zero, h1]; exact hj
    | j + 1, hj => rw [show o + (j + 1) = o + 1 + j by omega]; exact h2 j v hj
theorem rangeAt_app {w : World} {b o : Nat} {l m : List Value} : w.rangeAt b o (l ++ m) ↔ w.rangeAt b o l ∧ w.rangeAt b (o + l.length) m := by
  constructor
  · intro h
    refine ⟨fun j v hj => h j v ?_, fun j v hj => ?_⟩
    · rw [List.getElem?_append_left (List.getElem?_eq_some_iff.1 hj).1]; exact hj
    · rw [Nat.add_assoc]; exact h (l.length + j) v (by rw [List.getElem?_append_right (by omega), Nat.add_sub_cancel_left]; exact hj)
  · rintro ⟨h1, h2⟩ j v hj
    by_cases e : j < l.length
    · rw [List.getElem?_append_left e] at hj; exact h1 j v hj
    · rw [List.getElem?_append_right (by omega)] at hj
      have := h2 (j - l.length) v hj
      rwa [show o + l.length + (j - l.length) = o + j by omega] at this
/-- the document's state in a block. -/
structure Rb (w : World) (b : Nat) (D : Int) (y h k l : Nat → Bool) (o : Bool) : Prop where
  lt : b < w.heap.size
  d : w.cell? ⟨b, 0, none⟩ = some (.int .i64 D)
  y : w.rangeAt b 1 (b32A y).toList
  h : w.rangeAt b 33 (b32A h).toList
  k : w.rangeAt b 65 (b32A k).toList
  l : w.rangeAt b 97 (b32A l).toList
  o : w.cell? ⟨b, 129, none⟩ = some (.bool o)
  z : ∀ j, w.frozen? ⟨b, j, none⟩ = false
theorem Rb.whole {w : World} {b : Nat} {D : Int} {y h k l : Nat → Bool} {o : Bool} (r : Rb w b D y h k l o) : w.rangeAt b 0 (rsL D y h k l o) := by
  unfold rsL
  rw [rangeAt_cons, rangeAt_app, rangeAt_app, rangeAt_app, rangeAt_app]
  simp only [b32_len]
  exact ⟨r.d, r.y, r.h, r.k, r.l, fun j v hj => by
    match j, hj with
    | 0, hj => rw [Nat.add_zero]; simp at hj; rw [← hj]; exact r.o⟩
theorem Rb.of {w : World} {b : Nat} {D : Int} {y h k l : Nat → Bool} {o : Bool} (lt : b < w.heap.size) (r : w.rangeAt b 0 (rsL D y h k l o)) (z : ∀ j, w.frozen? ⟨b, j, none⟩ = false) : Rb w b D y h k l o := by
  unfold rsL at r
  rw [rangeAt_cons, rangeAt_app, rangeAt_app, rangeAt_app, rangeAt_app] at r
  simp only [b32_len] at r
  obtain ⟨r0, r1, r2, r3, r4, r5⟩ := r
  exact ⟨lt, r0, r1, r2, r3, r4, r5 0 _ rfl, z⟩
theorem Rb.new (w : World) (D : Int) (y h k l : Nat → Bool) (o : Bool) : Rb (w.alloc (.cells (rsA D y h k l o) 33)) w.heap.size D y h k l o :=
  .of (by simp) (fun j v hj => by rw [pcell_of (pnew_obj w _ _), Nat.zero_add]; unfold rsA; simpa using hj) (fun j => pfrozen_of (pnew_obj w _ _) j)
theorem Rb.kept {w w' : World} {b : Nat} {D : Int} {y h k l : Nat → Bool} {o : Bool} (r : Rb w b D y h k l o) (q : Kp w w') : Rb w' b D y h k l o :=
  .of (Nat.lt_of_lt_of_le r.lt q.size) (range_kept r.whole q) (fun j => by rw [show w'.frozen? ⟨b, j, none⟩ = w.frozen? ⟨b, j, none⟩ by simp [World.frozen?, q.block b r.lt]]; exact r.z j)
theorem Rb.far {w : World} {b c : Nat} {D : Int} {y h k l : Nat → Bool} {o : Bool} (r : Rb w b D y h k l o) (hb : b ≠ c) (off : Nat) (cs : List Value) : Rb (w.setCells c off cs) b D y h k l o :=
  .of (by rw [World.size_setCells]; exact r.lt) (fun j v hj => by rw [World.cell?_setCells_block w c off cs b (0 + j) hb]; exact r.whole j v hj) (fun j => by rw [World.frozen?_setCells]; exact r.z j)
theorem Rb.there {w : World} {b : Nat} {D : Int} {y h k l : Nat → Bool} {o : Bool} (r : Rb w b D y h k l o) : w.there b 0 130 := there_of (rsL_len ..) r.whole r.z
theorem Rb.set {w : World} {b : Nat} {D : Int} {y h k l : Nat → Bool} {o : Bool} (r : Rb w b D y h k l o) (D' : Int) (y' h' k' l' : Nat → Bool) (o' : Bool) : Rb (w.setCells b 0 (rsL D' y' h' k' l' o')) b D' y' h' k' l' o' :=
  .of (by rw [World.size_setCells]; exact r.lt) (World.rangeAt_setCells_same w b 0 _ (by rw [rsL_len]; exact r.there)) (fun j => by rw [World.frozen?_setCells]; exact r.z j)

theorem zero_rs (w : World) : (zeroValue 33).run Tryd.prog w = .ok (.agg (rsA 0 noF noF noF noF false)) w := by kernel_rfl
theorem zero_ps (w : World) : (zeroValue 30).run Tryd.prog w = .ok (PV ⟨0, noF, noF, noF, noF⟩) w := by
  unfold PV psA
  simp only [no_word]
  kernel_rfl
theorem build_rs (D : Int) (w : World) : (Instr.build 33 #[(0, .int .i64 D)]).run Tryd.prog w = .ok (.agg (rsA D noF noF noF noF false)) w := run_build w 33 _ _ (by kernel_rfl)
theorem wl_brs {ops : Array Oper} {rest : List Oper} {op : Oper} {a : Act} {w : World} {Q : Exit → Act → World → Prop} (hgd : op.guard = none) {x : Operand} (ho : op.op = .build 33 #[(0, x)]) {D : Int} (hx : a.eval x = .int .i64 D)
    (h : wpList Tryd.prog ops Q rest (a.put op.dst (.agg (rsA D noF noF noF noF false))) w) : wpList Tryd.prog ops Q (op :: rest) a w := by
  have hr := build_rs D w
  refine wpList_plain hgd fun K hK' => ?_
  unfold Oper.wp execOp
  simp only [ho]
  simp [hx, hr]
  exact hK' _ _ h
theorem rsA_all (D : Int) (y h k l : Nat → Bool) (o : Bool) : (rsA D y h k l o).all (·.oneCell') = true := Array.all_eq_true_iff_forall_mem.2 fun v hv => rsL_one D y h k l o v (by unfold rsA at hv; simpa using hv)
theorem wl_rsstore {ops : Array Oper} {rest : List Oper} {op : Oper} {a : Act} {w : World} {Q : Exit → Act → World → Prop} (hgd : op.guard = none) (hd : op.dst = none) {u v : Operand} (ho : op.op = .store 33 u v) {b : Nat} {D : Int} {y h k l : Nat → Bool} {o : Bool} (hx : a.eval u = .pointer (some ⟨b, 0, none⟩)) (hy : a.eval v = .agg (rsA D y h k l o)) (hA : w.there b 0 130)
    (hh : wpList Tryd.prog ops Q rest a (w.setCells b 0 (rsL D y h k l o))) : wpList Tryd.prog ops Q (op :: rest) a w := by
  refine wpList_store_mid hgd 33 u v ho b 0 (rsA D y h k l o) hx hy (by rw [rsA_sz]; exact hA) (by rw [rs_size, rsA_sz]) (rsA_all ..) ?_
  rw [hd]
  exact hh
theorem wl_rsload {ops : Array Oper} {rest : List Oper} {op : Oper} {a : Act} {w : World} {Q : Exit → Act → World → Prop} (hgd : op.guard = none) {u : Operand} (ho : op.op = .load 33 u) {b : Nat} {D : Int} {y h k l : Nat → Bool} {o : Bool} (hx : a.eval u = .pointer (some ⟨b, 0, none⟩)) (hb : w.rangeAt b 0 (rsL D y h k l o))
    (hh : wpList Tryd.prog ops Q rest (a.put op.dst (.agg (rsA D y h k l o))) w) : wpList Tryd.prog ops Q (op :: rest) a w :=
  wpList_load_mid hgd _ u ho b 0 hx (rsL D y h k l o) _ hb Tryd.underlying33 rfl (by rw [rs_size, rsL_len]) hh
theorem yl_rs {ops : Array Oper} {S : World → Prop} {op : Oper} {a : Act} {b : Nat} {D : Int} {y h k l : Nat → Bool} {o : Bool} {x : Operand} (hw : Region.wanted op (yielded ops a.tmps) = true) (ho : op.op = .load 33 x)
    (hx : a.eval x = .pointer (some ⟨b, 0, none⟩)) (hS : ∀ w, S w → w.rangeAt b 0 (rsL D y h k l o)) : YieldsIf Tryd.prog ops S op (.agg (rsA D y h k l o)) a :=
  yieldsIf_load_mid hw _ x ho b 0 hx (rsL D y h k l o) _ hS Tryd.underlying33 rfl (by rw [rs_size, rsL_len])
theorem yl_qs {ops : Array Oper} {S : World → Prop} {op : Oper} {a : Act} {b : Nat} {s : PS} {x : Operand} (hw : Region.wanted op (yielded ops a.tmps) = true) (ho : op.op = .load 30 x)
    (hx : a.eval x = .pointer (some ⟨b, 0, none⟩)) (hS : ∀ w, S w → w.rangeAt b 0 (psA s).toList) : YieldsIf Tryd.prog ops S op (PV s) a :=
  yieldsIf_load_mid hw _ x ho b 0 hx (psA s).toList _ hS Tryd.underlying30 rfl (by rw [info_ps]; rfl)
theorem yl_int {ops : Array Oper} {S : World → Prop} {op : Oper} {a : Act} {b o : Nat} {n : Int} {x : Operand} (hw : Region.wanted op (yielded ops a.tmps) = true) (ho : op.op = .load 3 x)
    (hx : a.eval x = .pointer (some ⟨b, o, none⟩)) (hS : ∀ w, S w → w.cell? ⟨b, o, none⟩ = some (.int .i64 n)) : YieldsIf Tryd.prog ops S op (.int .i64 n) a := by
  refine .inl ⟨hw, fun w h => ?_⟩
  have hc := hS w h
  unfold execOp
  rw [ho]
  simp only [hx]
  go_simp
theorem yl_u64 {ops : Array Oper} {S : World → Prop} {op : Oper} {a : Act} {b o : Nat} {n : Int} {x : Operand} (hw : Region.wanted op (yielded ops a.tmps) = true) (ho : op.op = .load 22 x)
    (hx : a.eval x = .pointer (some ⟨b, o, none⟩)) (hS : ∀ w, S w → w.cell? ⟨b, o, none⟩ = some (.int .u64 n)) : YieldsIf Tryd.prog ops S op (.int .u64 n) a := by
  refine .inl ⟨hw, fun w h => ?_⟩
  have hc := hS w h
  unfold execOp
  rw [ho]
  simp only [hx]
  go_simp
theorem build_ps5 (s : PS) (w : World) : (Instr.build 30 #[(0, .int .i64 s.D), (1, SV s.y), (2, SV s.h), (3, SV s.k), (4, SV s.l)]).run Tryd.prog w = .ok (PV s) w := run_build w 30 _ _ (by kernel_rfl)
theorem yl_bps5 {ops : Array Oper} {S : World → Prop} {op : Oper} {a : Act} {x0 x1 x2 x3 x4 : Operand} (s : PS) (hw : Region.wanted op (yielded ops a.tmps) = true) (ho : op.op = .build 30 #[(0, x0), (1, x1), (2, x2), (3, x3), (4, x4)]) (h0 : a.eval x0 = .int .i64 s.D) (h1 : a.eval x1 = SV s.y) (h2 : a.eval x2 = SV s.h) (h3 : a.eval x3 = SV s.k) (h4 : a.eval x4 = SV s.l) : YieldsIf Tryd.prog ops S op (PV s) a := by
  refine .inl ⟨hw, fun w _ => ?_⟩
  have hr := build_ps5 s w
  unfold execOp
  simp only [ho]
  simp [h0, h1, h2, h3, h4, hr]
theorem wpAnyH_qstore {ops : Array Oper} {Q : Exit → Act → World → Prop} {md : Region.Mode} {S : World → Prop} {fuel : Nat} {listed : Array Bool} {a : Act} {w : World} (i : Nat) {o : Oper} {x y : Operand} {b : Nat} (s : PS) (V : World)
    (hr : Region.ready md ops listed = [i]) (ho : ops[i]? = some o) (hw : Region.wanted o (yielded ops a.tmps) = true) (hd : o.dst = none) (hop : o.op = .store 30 x y) (hx : a.eval x = .pointer (some ⟨b, 0, none⟩)) (hy : a.eval y = PV s) (hA : w.there b 0 17) (hV : V = w.setCells b 0 (psA s).toList)
    (hS : S V) (h : S V → wpAnyH Tryd.prog md ops Q S fuel (listed.setIfInBounds i true) a V) : wpAnyH Tryd.prog md ops Q S (fuel + 1) listed a w :=
  wpAnyH_store_g i 30 (psA s) V hr ho hw hd hop hx hy hA (by rw [info_ps]; rfl) (Array.all_eq_true_iff_forall_mem.2 fun v hv => psA_one s v (by simpa using hv)) hV hS h

end Go.Proofs.YtffbachgbcefiaaDoor
