/-
  What the laws make of plain data: sets of words (bt), the program's and the document's state, a good state. No condition but that words are of 64 bits.
-/
import Derived.Test.YtffbachgbcefiaaDoorPsWl
namespace Go.Proofs.YtffbachgbcefiaaDoor
open Go.RowKit Plain
set_option linter.unusedVariables false
set_option linter.unusedSimpArgs false

/-- the set of a word's bits. -/
def bt (n : Nat) (i : Nat) : Bool := decide (i < 64) && n.testBit i
theorem bt_word (n : Nat) (hn : n < 18446744073709551616) : wd (bt n) 0 = n := by
  have : wd (bt n) 0 = wn 64 n.testBit := wn_congr 64 _ _ (fun j hj => by unfold bt; rw [Nat.mul_zero, Nat.zero_add, decide_eq_true hj]; rfl)
  rw [this]
  exact wn_of 64 n hn
theorem bt_none (n k : Nat) (hk : 0 < k) : wd (bt n) k = 0 := wn_zero 64 _ (fun j _ => by unfold bt; rw [decide_eq_false (by omega)]; rfl)
theorem SV_bt (n : Nat) (hn : n < 18446744073709551616) : SV (bt n) = .agg #[.int .u64 (n : Int), .int .u64 0, .int .u64 0, .int .u64 0] := by
  unfold SV
  rw [bt_word n hn, bt_none n 1 (by omega), bt_none n 2 (by omega), bt_none n 3 (by omega)]; rfl
theorem build_set (n : Nat) (hn : n < 18446744073709551616) (w : World) : (Instr.build 28 #[(0, .int .u64 (n : Int))]).run Tryd.prog w = .ok (SV (bt n)) w := by
  rw [SV_bt n hn]
  exact run_build w 28 _ _ (by kernel_rfl)
set_option maxRecDepth 100000 in
set_option maxHeartbeats 2000000 in
theorem set_any (n : Nat) (hn : n < 18446744073709551616) (w : World) : Calls Tryd.prog 19 #[.int .u64 (n : Int)] w fun e w' => e = .returned (SV (bt n)) ∧ Kp w w' := by
  have hb := build_set n hn
  obtain ⟨w0, hw0⟩ : ∃ w0, w0 = w.alloc (.cells (w4 no4) 28) := ⟨_, rfl⟩
  have a0 : A4 w0 w.heap.size no4 := by rw [hw0]; exact A4.new _ _ _
  have k0 : Kp w w0 := by rw [hw0]; exact (Kp.refl w).alloc _
  have HW := hid hw0
  have HA := hid (And.intro (a0.put (wd (bt n))) (Kp.put4 k0 (Nat.le_refl _) (wd (bt n))))
  clear hw0 k0
  go_enter Tryd.func19, Tryd.ntmps19
  go_upto_region 1 with fail
  change Code.wp _ _ _ _ (w.alloc (.cells (w4 no4) 28))
  rw [← show w0 = w.alloc (.cells (w4 no4) 28) from HW.out]
  clear HW
  go_wp2_with (refine wl_put (f := bt n) rfl rfl rfl rfl (by rw [SV_bt n hn]; rfl) a0 ?_)
  refine bodyPost_ret (results_set rfl _ _ w.heap.size (wd (bt n)) rfl HA.out.1) rfl ?_
  exact ⟨rfl, HA.out.2⟩

/-! ### a state in a block that is written -/
structure Qx (w : World) (b : Nat) (s : PS) : Prop where
  lt : b < w.heap.size
  range : w.rangeAt b 0 (psA s).toList
  z : ∀ j, w.frozen? ⟨b, j, none⟩ = false
theorem Qx.of_block {w w' : World} {b : Nat} {s : PS} (h : Qx w b s) (hk : w'.heap[b]? = w.heap[b]?) (hs : w.heap.size ≤ w'.heap.size) : Qx w' b s :=
  ⟨Nat.lt_of_lt_of_le h.lt hs, fun j v hj => by rw [show w'.cell? ⟨b, 0 + j, none⟩ = w.cell? ⟨b, 0 + j, none⟩ by simp [World.cell?, hk]]; exact h.range j v hj, fun j => by rw [show w'.frozen? ⟨b, j, none⟩ = w.frozen? ⟨b, j, none⟩ by simp [World.frozen?, hk]]; exact h.z j⟩
theorem Qx.kept {w w' : World} {b : Nat} {s : PS} (h : Qx w b s) (k : Kp w w') : Qx w' b s := h.of_block (k.block b h.lt) k.size
theorem Qx.new (w : World) (s : PS) : Qx (w.alloc (.cells (psA s) 30)) w.heap.size s :=
  ⟨by simp, fun j v hj => by rw [pcell_of (pnew_obj w _ _), Nat.zero_add]; simpa using hj, fun j => pfrozen_of (pnew_obj w _ _) j⟩
theorem Qx.there {w : World} {b : Nat} {s : PS} (h : Qx w b s) : w.there b 0 17 := there_of rfl h.range h.z
theorem Qx.set {w : World} {b : Nat} {s : PS} (h : Qx w b s) (t : PS) : Qx (w.setCells b 0 (psA t).toList) b t :=
  ⟨by rw [World.size_setCells]; exact h.lt, World.rangeAt_setCells_same w b 0 (psA t).toList h.there, fun j => by rw [World.frozen?_setCells]; exact h.z j⟩
theorem Qx.far {w : World} {b c : Nat} {s : PS} (h : Qx w b s) (hb : b ≠ c) (o : Nat) (cs : List Value) : Qx (w.setCells c o cs) b s :=
  ⟨by rw [World.size_setCells]; exact h.lt, fun j v hj => by rw [World.cell?_setCells_block w c o cs b (0 + j) hb]; exact h.range j v hj, fun j => by rw [World.frozen?_setCells]; exact h.z j⟩
theorem psA_one (s : PS) : ∀ u ∈ (psA s).toList, u.oneCell' = true := by simp [psA, Value.oneCell']
theorem wl_qload {ops : Array Oper} {rest : List Oper} {op : Oper} {a : Act} {w : World} {Q : Exit → Act → World → Prop} (hgd : op.guard = none) {x : Operand} (ho : op.op = .load 30 x) {b : Nat} {s : PS} (hx : a.eval x = .pointer (some ⟨b, 0, none⟩)) (hb : w.rangeAt b 0 (psA s).toList)
    (h : wpList Tryd.prog ops Q rest (a.put op.dst (PV s)) w) : wpList Tryd.prog ops Q (op :: rest) a w :=
  wpList_load_mid hgd _ x ho b 0 hx (psA s).toList _ hb Tryd.underlying30 rfl (by rw [info_ps]; rfl) h
theorem wl_qstore {ops : Array Oper} {rest : List Oper} {op : Oper} {a : Act} {w : World} {Q : Exit → Act → World → Prop} (hgd : op.guard = none) (hd : op.dst = none) {x y : Operand} (ho : op.op = .store 30 x y) {b : Nat} {s : PS} (hx : a.eval x = .pointer (some ⟨b, 0, none⟩)) (hy : a.eval y = PV s) (hA : w.there b 0 17)
    (h : wpList Tryd.prog ops Q rest a (w.setCells b 0 (psA s).toList)) : wpList Tryd.prog ops Q (op :: rest) a w := by
  refine wpList_store_mid hgd 30 x y ho b 0 (psA s) hx hy hA (by rw [info_ps]; rfl) (Array.all_eq_true_iff_forall_mem.2 fun v hv => psA_one s v (by simpa using hv)) ?_
  rw [hd]
  exact h

/-- in a region that draws its order: the one operation that may come is the store of an array or a struct. -/
theorem wpAnyH_store_g {ops : Array Oper} {Q : Exit → Act → World → Prop} {md : Region.Mode} {S : World → Prop} {fuel : Nat} {listed : Array Bool} {a : Act} {w : World} (i : Nat) {o : Oper} {x y : Operand} {b off : Nat} (ty : TypeId) (cs : Array Value) (V : World)
    (hr : Region.ready md ops listed = [i]) (ho : ops[i]? = some o) (hw : Region.wanted o (yielded ops a.tmps) = true) (hd : o.dst = none) (hop : o.op = .store ty x y) (hx : a.eval x = .pointer (some ⟨b, off, none⟩)) (hy : a.eval y = .agg cs) (hA : w.there b off cs.size)
    (hi : (Tryd.prog.info? ty).map (·.size) = some cs.size) (h1 : cs.all (·.oneCell') = true) (hV : V = w.setCells b off cs.toList)
    (hS : S V) (h : S V → wpAnyH Tryd.prog md ops Q S fuel (listed.setIfInBounds i true) a V) : wpAnyH Tryd.prog md ops Q S (fuel + 1) listed a w := by
  subst hV
  refine wpAnyH_ready (rs := [i]) hr (by simp) ?_
  refine AllReadyH.cons ho ?_ AllReadyH.nil
  intro K hK
  rw [if_pos hw]
  refine wp_store_mid ty x y hop b off cs hx hy hA hi h1 ?_
  rw [hd]
  exact hK.out _ _ hS h

/-! ### the document's truths of thirty-two places -/
def b32A (f : Nat → Bool) : Array Value := ((List.range 32).map fun i => Value.bool (f i)).toArray
theorem b32_len (f : Nat → Bool) : (b32A f).toList.length = 32 := by unfold b32A; simp
theorem b32_at (f : Nat → Bool) (i : Nat) (h : i < 32) : (b32A f).toList[i]? = some (.bool (f i)) := by unfold b32A; simp [h]
theorem b32_one (f : Nat → Bool) : ∀ u ∈ (b32A f).toList, u.oneCell' = true := by
  intro u hu
  obtain ⟨i, hi, rfl⟩ := List.getElem_of_mem hu
  have := b32_at f i (by rw [b32_len] at hi; exact hi)
  rw [List.getElem?_eq_getElem hi] at this
  rw [Option.some.inj this]; rfl
theorem b32_congr {f g : Nat → Bool} (h : ∀ i, i < 32 → f i = g i) : b32A f = b32A g := by
  unfold b32A
  congr 1
  exact List.map_congr_left fun i hi => by rw [h i (by simpa using hi)]
theorem b32_all (f : Nat → Bool) : (b32A f).all (·.oneCell') = true := Array.all_eq_true_iff_forall_mem.2 fun v hv => b32_one f v (by simpa using hv)
theorem b32_sz (f : Nat → Bool) : (b32A f).size = 32 := by unfold b32A; simp
theorem b32_size : (Tryd.prog.info? 31).map (·.size) = some 32 := by kernel_rfl
theorem zero_b32 (w : World) : (zeroValue 31).run Tryd.prog w = .ok (.agg (b32A noF)) w := by kernel_rfl
theorem yl_b32 {ops : Array Oper} {S : World → Prop} {op : Oper} {a : Act} {b o : Nat} {f : Nat → Bool} {x : Operand} (hw : Region.wanted op (yielded ops a.tmps) = true) (ho : op.op = .load 31 x)
    (hx : a.eval x = .pointer (some ⟨b, o, none⟩)) (hS : ∀ w, S w → w.rangeAt b o (b32A f).toList) : YieldsIf Tryd.prog ops S op (.agg (b32A f)) a :=
  yieldsIf_load_mid hw _ x ho b o hx (b32A f).toList _ hS Tryd.underlying31 rfl (by rw [b32_size, b32_len])
theorem wl_b32 {ops : Array Oper} {rest : List Oper} {op : Oper} {a : Act} {w : World} {Q : Exit → Act → World → Prop} (hgd : op.guard = none) {x : Operand} (ho : op.op = .load 31 x) {b o : Nat} {f : Nat → Bool} (hx : a.eval x = .pointer (some ⟨b, o, none⟩)) (hb : w.rangeAt b o (b32A f).toList)
    (h : wpList Tryd.prog ops Q rest (a.put op.dst (.agg (b32A f))) w) : wpList Tryd.prog ops Q (op :: rest) a w :=
  wpList_load_mid hgd _ x ho b o hx (b32A f).toList _ hb Tryd.underlying31 rfl (by rw [b32_size, b32_len]) h
theorem wl_b32s {ops : Array Oper} {rest : List Oper} {op : Oper} {a : Act} {w : World} {Q : Exit → Act → World → Prop} (hgd : op.guard = none) (hd : op.dst = none) {x y : Operand} (ho : op.op = .store 31 x y) {b o : Nat} {f : Nat → Bool} (hx : a.eval x = .pointer (some ⟨b, o, none⟩)) (hy : a.eval y = .agg (b32A f)) (hA : w.there b o 32)
    (h : wpList Tryd.prog ops Q rest a (w.setCells b o (b32A f).toList)) : wpList Tryd.prog ops Q (op :: rest) a w := by
  refine wpList_store_mid hgd 31 x y ho b o (b32A f) hx hy (by rw [b32_sz]; exact hA) (by rw [b32_size, b32_sz]) (b32_all f) ?_
  rw [hd]
  exact h
/-- a block of truths. -/
structure Bt (w : World) (b o : Nat) (f : Nat → Bool) : Prop where
  lt : b < w.heap.size
  range : w.rangeAt b o (b32A f).toList
  z : ∀ j, w.frozen? ⟨b, j, none⟩ = false
theorem Bt.c {w : World} {b o : Nat} {f : Nat → Bool} (h : Bt w b o f) (i : Nat) (hi : i < 32) : w.cell? ⟨b, o + i, none⟩ = some (.bool (f i)) := h.range i _ (b32_at f i hi)
theorem Bt.of {w : World} {b o : Nat} {f : Nat → Bool} (lt : b < w.heap.size) (h : ∀ i, i < 32 → w.cell? ⟨b, o + i, none⟩ = some (.bool (f i))) (z : ∀ j, w.frozen? ⟨b, j, none⟩ = false) : Bt w b o f :=
  ⟨lt, fun j v hj => by
    have hj32 : j < 32 := by
      have := (List.getElem?_eq_some_iff.1 hj).1
      rwa [b32_len] at this
    rw [b32_at f j hj32] at hj
    rw [h j hj32, hj], z⟩
theorem Bt.of_block {w w' : World} {b o : Nat} {f : Nat → Bool} (h : Bt w b o f) (hk : w'.heap[b]? = w.heap[b]?) (hs : w.heap.size ≤ w'.heap.size) : Bt w' b o f :=
  ⟨Nat.lt_of_lt_of_le h.lt hs, fun j v hj => by rw [show w'.cell? ⟨b, o + j, none⟩ = w.cell? ⟨b, o + j, none⟩ by simp [World.cell?, hk]]; exact h.range j v hj, fun j => by rw [show w'.frozen? ⟨b, j, none⟩ = w.frozen? ⟨b, j, none⟩ by simp [World.frozen?, hk]]; exact h.z j⟩
theorem Bt.kept {w w' : World} {b o : Nat} {f : Nat → Bool} (h : Bt w b o f) (k : Kp w w') : Bt w' b o f := h.of_block (k.block b h.lt) k.size
theorem Bt.new (w : World) (f : Nat → Bool) (t : TypeId) : Bt (w.alloc (.cells (b32A f) t)) w.heap.size 0 f :=
  ⟨by simp, fun j v hj => by rw [pcell_of (pnew_obj w _ _), Nat.zero_add]; simpa using hj, fun j => pfrozen_of (pnew_obj w _ _) j⟩
theorem Bt.set {w : World} {b o : Nat} {f : Nat → Bool} (h : Bt w b o f) (k : Nat) (x : Bool) : Bt (w.setCell ⟨b, o + k, none⟩ (.bool x)) b o (fun i => if i = k then x else f i) := by
  refine .of (by rw [size_set]; exact h.lt) (fun i hi => ?_) (fun j => by rw [World.frozen?_setCell]; exact h.z j)
  by_cases e : i = k
  · subst e
    rw [if_pos rfl]
    exact World.cell?_setCell_same _ _ _ (h.c i hi)
  · rw [if_neg e, cell_off _ _ _ _ _ (by omega)]
    exact h.c i hi
theorem Bt.store {w : World} {b o : Nat} {f : Nat → Bool} (h : Bt w b o f) (g : Nat → Bool) : Bt (w.setCells b o (b32A g).toList) b o g :=
  ⟨by rw [World.size_setCells]; exact h.lt, World.rangeAt_setCells_same w b o (b32A g).toList (by rw [b32_len]; exact there_of' h), fun j => by rw [World.frozen?_setCells]; exact h.z j⟩
where there_of' {w : World} {b o : Nat} {f : Nat → Bool} (h : Bt w b o f) : w.there b o 32 := there_of (b32_len f) h.range h.z
/-- words' first bits -/
theorem bit_shr (n : Nat) (hn : n < 18446744073709551616) (i : Nat) (hi : i < 64) : (n / 2 ^ i % 2 == 1) = bt n i := by
  unfold bt
  rw [decide_eq_true hi, Bool.true_and, Nat.testBit_eq_decide_div_mod_eq]
  by_cases e : n / 2 ^ i % 2 = 1
  · rw [e]; simp
  · rw [decide_eq_false e]; simpa using e

end Go.Proofs.YtffbachgbcefiaaDoor
