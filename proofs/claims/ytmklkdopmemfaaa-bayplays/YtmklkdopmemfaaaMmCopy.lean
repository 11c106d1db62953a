/-
  Copies of sectors, and writes loaded and stored: laws at one operation. Conditions: that the cells are there.
-/
import Derived.Test.YtmklkdopmemfaaaMmTwo
import Derived.Test.YtmklkdopmemfaaaMmTail
namespace Go.Proofs.Ytmklkdopmemfaaa
open Go.RowKit Plain
set_option linter.unusedVariables false

theorem run_copy_str (w : World) (ty : TypeId) (g off c : Nat) (s : ByteArray) (hz : s.size = 64) (ht : w.there g off 64) :
    (Builtin.copy_ #[103, 9] ty #[.slice (some ⟨g, off, none⟩) 64 c, .string s]).run Try.prog w = .ok (.int .i64 64) (w.setCells g off (byteCells s)) := by
  have hst := run_storeCells_cells (P := Try.prog) g off (byteCells s) 0 w (fun j hj => by rw [bc_len, hz] at hj; simpa using (ht j hj).1) (fun j hj => by rw [bc_len, hz] at hj; simpa using (ht j hj).2) (bc_one s)
  have hf := firstCells_string (P := Try.prog) s w
  rw [hz] at hf
  simp only [Nat.add_zero] at hst
  simp [Builtin.copy_, run_underlying Try.underlying103, Builtin.lenOf, hz, Try.sizeOf5, hf, hst, goInt]
theorem run_copy_byt (w : World) (ty : TypeId) (g off c g2 o2 c2 : Nat) (cs : List Value) (hl : cs.length = 64) (h1 : ∀ v ∈ cs, v.oneCell' = true) (ht : w.there g off 64) (hr : w.rangeAt g2 o2 cs) :
    (Builtin.copy_ #[103, 103] ty #[.slice (some ⟨g, off, none⟩) 64 c, .slice (some ⟨g2, o2, none⟩) 64 c2]).run Try.prog w = .ok (.int .i64 64) (w.setCells g off cs) := by
  have := run_copy_cells (P := Try.prog) w 103 103 ty 5 g off 64 c ⟨g2, o2, none⟩ 64 c2 cs Try.underlying103 (by kernel_rfl) (by rw [hl]; rfl) (fun j v hv => by rw [Addr.add_mid]; exact hr j v hv) (fun j hj => (ht j (by omega)).1) (fun j hj => (ht j (by omega)).2) h1
  rw [hl] at this
  exact this
theorem run_copy_secs (w : World) (ty : TypeId) (g g2 n c c2 : Nat) (cs : List Value) (hl : cs.length = n * 64) (h1 : ∀ v ∈ cs, v.oneCell' = true) (ht : w.there g 0 (n * 64)) (hr : w.rangeAt g2 0 cs) :
    (Builtin.copy_ #[98, 98] ty #[.slice (some ⟨g, 0, none⟩) n c, .slice (some ⟨g2, 0, none⟩) n c2]).run Try.prog w = .ok (.int .i64 (n : Int)) (w.setCells g 0 cs) := by
  have hst := run_storeCells_cells (P := Try.prog) g 0 cs 0 w (fun j hj => by rw [hl] at hj; simpa using (ht j hj).1) (fun j hj => by rw [hl] at hj; simpa using (ht j hj).2) h1
  have hf := run_firstCells_some (P := Try.prog) w 64 n ⟨g2, 0, none⟩ n c2 cs hl (fun j u hu => by rw [Addr.add_mid]; exact hr j u hu)
  simp only [Nat.add_zero] at hst
  simp [Builtin.copy_, run_underlying Try.underlying98, Builtin.lenOf, Try.sizeOf104, hf, hst, goInt]
theorem wpList_copy_run {w : World} {ops : Array Oper} {rest : List Oper} {o : Oper} {a : Act} {Q : Exit → Act → World → Prop} (hgd : o.guard = none) (d s : Operand) (dT sT : TypeId)
    (ho : o.op = .call { callee := .builtin .copy, args := #[d, s], argTypes := #[dT, sT] }) (dv sv r : Value) (w' : World) (hd : a.eval d = dv) (hs : a.eval s = sv)
    (hrun : (Builtin.copy_ #[dT, sT] o.type #[dv, sv]).run Try.prog w = .ok r w') (h : wpList Try.prog ops Q rest (a.put o.dst r) w') : wpList Try.prog ops Q (o :: rest) a w := by
  refine wpList_plain hgd fun K hK' => ?_
  unfold Oper.wp
  simp [execOp, ho, resolve, invoke, builtin, hd, hs, hrun, Result.andThen]
  exact hK' _ _ h
/-- the cells of all sectors. -/
def scs : List ByteArray → List Value
  | [] => []
  | s :: L => byteCells s ++ scs L
theorem scs_len : ∀ L, (∀ s ∈ L, s.size = 64) → (scs L).length = L.length * 64
  | [], _ => rfl
  | s :: L, h => by
    simp only [scs, List.length_append, List.length_cons, scs_len L (fun q hq => h q (List.mem_cons_of_mem _ hq)), bc_len, h s List.mem_cons_self]
    omega
theorem scs_one : ∀ L, ∀ v ∈ scs L, v.oneCell' = true
  | [], v, h => by cases h
  | s :: L, v, h => by
    rcases List.mem_append.1 h with h | h
    · exact bc_one s v h
    · exact scs_one L v h
theorem scs_at : ∀ (L : List ByteArray) (i : Nat), (∀ s ∈ L, s.size = 64) → i < L.length → ∀ (j : Nat), j < 64 → (scs L)[i * 64 + j]? = (byteCells (L.getD i noS))[j]?
  | [], i, _, h, _, _ => by simp at h
  | s :: L, 0, hz, _, j, hj => by
    rw [Nat.zero_mul, Nat.zero_add]
    show (byteCells s ++ scs L)[j]? = (byteCells s)[j]?
    rw [List.getElem?_append_left (by rw [bc_len, hz s List.mem_cons_self]; exact hj)]
  | s :: L, i + 1, hz, h, j, hj => by
    have h1 := scs_at L i (fun q hq => hz q (List.mem_cons_of_mem _ hq)) (by simpa using h) j hj
    show (byteCells s ++ scs L)[(i + 1) * 64 + j]? = (byteCells (L.getD i noS))[j]?
    have hl : (byteCells s).length = 64 := by rw [bc_len, hz s List.mem_cons_self]
    rw [List.getElem?_append_right (by rw [hl]; omega), hl, show (i + 1) * 64 + j - 64 = i * 64 + j by omega]
    exact h1
theorem SecIn.all {w : World} {g : Nat} {L : List ByteArray} (h : SecIn w g L) : w.rangeAt g 0 (scs L) := fun j v hv => by
  have hj := (List.getElem?_eq_some_iff.1 hv).1
  rw [scs_len L h.z] at hj
  have e : j = j / 64 * 64 + j % 64 := by omega
  have hi : j / 64 < L.length := by omega
  rw [e, scs_at L (j / 64) h.z hi (j % 64) (by omega)] at hv
  have := h.c (j / 64) hi (j % 64) v hv
  rw [Nat.zero_add]
  rw [← e] at this
  exact this
theorem SecIn.of {w : World} {g : Nat} {L : List ByteArray} (hr : w.rangeAt g 0 (scs L)) (ht : w.there g 0 (L.length * 64)) (hz : ∀ s ∈ L, s.size = 64) : SecIn w g L :=
  ⟨fun i hi j v hv => by
    have hj := (List.getElem?_eq_some_iff.1 hv).1
    rw [bc_len, hz _ (getD_mem hi)] at hj
    have := hr (i * 64 + j) v (by rw [scs_at L i hz hi j hj]; exact hv)
    rwa [Nat.zero_add] at this, ht, hz⟩
/-- sectors overwritten whole. -/
theorem SecIn.over {w : World} {g : Nat} {L : List ByteArray} (h : SecIn w g L) (L' : List ByteArray) (hl : L'.length = L.length) (hz : ∀ s ∈ L', s.size = 64) : SecIn (w.setCells g 0 (scs L')) g L' :=
  SecIn.of (World.rangeAt_setCells_same w g 0 _ (by rw [scs_len L' hz, hl]; exact h.t)) (by rw [hl]; exact World.there_setCells h.t g 0 _) hz

/-! ### a write in a block of its own -/
structure Vr (w : World) (k : Nat) (p : Nat × ByteArray) : Prop where
  r : w.rangeAt k 0 (wc p)
  t : w.there k 0 65
  z : p.2.size = 64
  hk : k < w.heap.size
theorem Vr.at {w : World} {k : Nat} {p : Nat × ByteArray} (h : Vr w k p) : w.cell? ⟨k, 0, none⟩ = some (.int .i64 (p.1 : Int)) := h.r 0 _ rfl
theorem Vr.bytes {w : World} {k : Nat} {p : Nat × ByteArray} (h : Vr w k p) : w.rangeAt k 1 (byteCells p.2) := fun j v hv => by
  have := h.r (j + 1) v (by simpa [wc] using hv)
  rw [show 1 + j = 0 + (j + 1) by omega]
  exact this
theorem Vr.load {w : World} {k : Nat} {p : Nat × ByteArray} (h : Vr w k p) : (Instr.loadAt 112 (.pointer (some ⟨k, 0, none⟩))).run Try.prog w = .ok (.agg (wc p).toArray) w :=
  run_loadAt_mid w k 0 112 (wc p) _ h.r Try.underlying112 rfl (by rw [wc_len, h.z]; kernel_rfl)
theorem Vr.sp {w w' : World} {k : Nat} {p : Nat × ByteArray} (h : Vr w k p) {T : List Nat} (q : Sp T w w') (hk : k ∉ T) : Vr w' k p := ⟨q.range h.r hk, q.there h.t hk, h.z, Nat.lt_of_lt_of_le h.hk q.size⟩
theorem zero_len : Try.zeroCells112.size = 65 := by kernel_rfl
theorem there_new (w : World) (cs : Array Value) (t : TypeId) (n : Nat) (hn : n = cs.size) : (w.alloc (.cells cs t)).there w.heap.size 0 n := fun j hj => by
  rw [World.cell?_alloc_at _ _ _ _ rfl, World.frozen?_alloc_at _ _ _ _ rfl, Nat.zero_add, Array.getElem?_eq_getElem (by omega)]
  exact ⟨rfl, rfl⟩
/-- a write loaded. -/
theorem wpList_load_w {w : World} {ops : Array Oper} {rest : List Oper} {o : Oper} {a : Act} {Q : Exit → Act → World → Prop} (hgd : o.guard = none) (x : Operand) (ho : o.op = .load 112 x)
    (g off : Nat) (hx : a.eval x = .pointer (some ⟨g, off, none⟩)) (p : Nat × ByteArray) (hz : p.2.size = 64) (hr : w.rangeAt g off (wc p))
    (h : wpList Try.prog ops Q rest (a.put o.dst (.agg (wc p).toArray)) w) : wpList Try.prog ops Q (o :: rest) a w :=
  wpList_load_mid hgd 112 x ho g off hx (wc p) _ hr Try.underlying112 rfl (by rw [wc_len, hz]; kernel_rfl) h
/-- a write stored into a block just made. -/
theorem wpList_store_new {w0 : World} {ops : Array Oper} {rest : List Oper} {o : Oper} {a : Act} {Q : Exit → Act → World → Prop} (hgd : o.guard = none) (x y : Operand) (ho : o.op = .store 112 x y)
    (p : Nat × ByteArray) (hz : p.2.size = 64) (k : Nat) (hk : k = w0.heap.size) (hx : a.eval x = .pointer (some ⟨k, 0, none⟩)) (hy : a.eval y = .agg (wc p).toArray)
    (h : ∀ w', Kp w0 w' → Vr w' k p → k < w'.heap.size → wpList Try.prog ops Q rest (a.put o.dst undef) w') : wpList Try.prog ops Q (o :: rest) a (w0.alloc (.cells Try.zeroCells112 112)) := by
  subst hk
  have ht := there_new w0 Try.zeroCells112 112 65 zero_len.symm
  have hlen : (wc p).length = 65 := by rw [wc_len, hz]
  refine wpList_store_mid hgd 112 x y ho w0.heap.size 0 (wc p).toArray hx hy (by simpa [hlen] using ht) (by simp only [List.size_toArray, hlen]; kernel_rfl) (all_oneCell_toArray (wc_one p)) ?_
  have K := Sp.setCells (T := [w0.heap.size]) w0.heap.size (by simp) (wc p) 0 _ (Sp.refl _ (w0.alloc (.cells Try.zeroCells112 112)))
  refine h _ (Sp.kp ((Kp.refl w0).alloc _) K (by simp)) ⟨World.rangeAt_setCells_same _ _ _ _ (by rw [hlen]; exact ht), World.there_setCells ht _ _ _, hz, Nat.lt_of_lt_of_le (by simp) K.size⟩ (Nat.lt_of_lt_of_le (by simp) K.size)

end Go.Proofs.Ytmklkdopmemfaaa
