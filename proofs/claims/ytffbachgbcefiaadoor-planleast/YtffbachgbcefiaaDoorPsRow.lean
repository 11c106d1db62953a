/-
  Plans as values, lists of plans of the call's own: the program's (a kind, a set) and the document's (a kind, thirty-two truths). No condition.
-/
import Derived.Test.YtffbachgbcefiaaDoorPsMem
import Derived.Laws.AppendOwnNone
import Derived.Great.BuildSlice
import Derived.Great.FillDense
namespace Go.Proofs.YtffbachgbcefiaaDoor
open Go.RowKit Plain
set_option linter.unusedVariables false
set_option linter.unusedSimpArgs false

abbrev Pn := Nat × (Nat → Bool)
theorem fm_at {c : Pn → List Value} {n : Nat} (hc : ∀ x, (c x).length = n) : ∀ (l : List Pn) (i j : Nat), i < l.length → j < n → (l.flatMap c)[i * n + j]? = (c (l.getD i (0, noF)))[j]?
  | [], i, j, h, _ => by simp at h
  | p :: l, 0, j, _, hj => by
    rw [List.flatMap_cons, Nat.zero_mul, Nat.zero_add, List.getElem?_append_left (by rw [hc]; exact hj)]
    rfl
  | p :: l, i + 1, j, h, hj => by
    rw [List.flatMap_cons, List.getElem?_append_right (by rw [hc, Nat.succ_mul]; omega), hc, show (i + 1) * n + j - n = i * n + j by rw [Nat.succ_mul]; omega, fm_at hc l i j (by simpa using h) hj]
    rfl
theorem fm_len {c : Pn → List Value} {n : Nat} (hc : ∀ x, (c x).length = n) : ∀ (l : List Pn), (l.flatMap c).length = l.length * n
  | [] => by simp
  | p :: l => by rw [List.flatMap_cons, List.length_append, hc, fm_len hc l, List.length_cons, Nat.succ_mul]; omega

/-! ### plan.Plan -/
def pA (p : Pn) : Array Value := #[.int .i64 p.1, .int .u64 (wd p.2 0 : Nat), .int .u64 (wd p.2 1 : Nat), .int .u64 (wd p.2 2 : Nat), .int .u64 (wd p.2 3 : Nat)]
def pV (p : Pn) : Value := .agg (pA p)
theorem pA_len (p : Pn) : (pA p).toList.length = 5 := rfl
theorem pA_one (p : Pn) : ∀ u ∈ (pA p).toList, u.oneCell' = true := by simp [pA, Value.oneCell']
def pZ : Value := .agg #[.int .i64 0, .int .u64 0, .int .u64 0, .int .u64 0, .int .u64 0]
theorem pinfo : (Tryd.prog.info? 45).map (fun i => (i.zero, i.size, i.bytes)) = some (some pZ, 5, 40) := by kernel_rfl
theorem psize : (Tryd.prog.info? 45).map (·.size) = some 5 := by kernel_rfl
/-- a list of plans of the call's own. -/
def pOw (w : World) (base : Nat) (v : Value) (l : List Pn) : Prop := w.ownsRow base 45 5 v l.length (l.flatMap fun p => (pA p).toList)
theorem pOw.kept {w w' : World} {base : Nat} {v : Value} {l : List Pn} (h : pOw w base v l) (k : Kp w w') : pOw w' base v l := by
  rcases h.2 with ⟨h', h0⟩ | ⟨g, cap, cur, h', hb, hg, hr⟩
  · exact ⟨h.1, .inl ⟨h', h0⟩⟩
  · exact ⟨h.1, .inr ⟨g, cap, cur, h', hb, (k.block g (pheap_lt hg)).trans hg, hr⟩⟩
theorem pOw.nil (w : World) (base : Nat) : pOw w base (.slice none 0 0) [] := ⟨rfl, .inl ⟨rfl, rfl⟩⟩
theorem pOw.mono {w : World} {base base' : Nat} {v : Value} {l : List Pn} (h : pOw w base v l) (hb : base' ≤ base) : pOw w base' v l := by
  rcases h.2 with ⟨h', h0⟩ | ⟨g, cap, cur, h', hg, hr⟩
  · exact ⟨h.1, .inl ⟨h', h0⟩⟩
  · exact ⟨h.1, .inr ⟨g, cap, cur, h', Nat.le_trans hb hg, hr⟩⟩
theorem pOw.own {w : World} {base : Nat} {v : Value} {l : List Pn} (h : pOw w base v l) : ∀ g, v.ownBlock = some g → base ≤ g := by
  rcases h.2 with ⟨rfl, h0⟩ | ⟨g, cap, cur, rfl, hb, hg, hr⟩
  · intro g hg; cases hg
  · intro k hk
    have : some g = some k := hk
    injection this with this
    omega
/-- what a list is in memory. -/
theorem pOw.cells {w : World} {base : Nat} {v : Value} {l : List Pn} (h : pOw w base v l) : ∃ p c g, v = .slice p l.length c ∧ l.length ≤ c ∧ c ≤ 9223372036854775807 ∧ (0 < l.length → p = some ⟨g, 0, none⟩) ∧ ∀ i, i < l.length → w.rangeAt g (i * 5) (pA (l.getD i (0, noF))).toList := by
  have h0 := h
  rcases h.2 with ⟨h1, h2⟩ | ⟨g, cap, cur, h1, _, hg, hn, hm, hcs, htake⟩
  · subst h1
    have hl : l.length = 0 := h2
    exact ⟨none, 0, 0, by rw [hl], by omega, by omega, fun h => absurd h (by omega), fun i hi => absurd hi (by omega)⟩
  · subst h1
    refine ⟨_, cap, g, rfl, hn, by unfold maxLen at hm; omega, fun _ => rfl, fun i hi j u hj => ?_⟩
    have hj5 : j < 5 := by
      have := (List.getElem?_eq_some_iff.1 hj).1
      rwa [pA_len] at this
    have hlen := fm_len (c := fun p => (pA p).toList) (n := 5) pA_len l
    have hlt : i * 5 + j < l.length * 5 := by
      have : (i + 1) * 5 ≤ l.length * 5 := Nat.mul_le_mul_right _ hi
      rw [Nat.succ_mul] at this
      omega
    rw [World.ownsRow.cellAt h0 (i * 5 + j) (by omega), fm_at (c := fun p => (pA p).toList) (n := 5) pA_len l i j hi hj5]
    exact hj
/-- a plan appended. -/
theorem pappend {w : World} {ops : Array Oper} {rest : List Oper} {o : Oper} {a : Act} {Q : Exit → Act → World → Prop} (hgd : o.guard = none) (s x : Operand)
    (ho : o.op = .call { callee := .builtin .append, args := #[s, x], argTypes := #[36, 36] })
    (base : Nat) (v : Value) (l : List Pn) (hs : a.eval s = v) (hown : pOw w base v l) (p : Pn) (k : Nat) (hx : a.eval x = .slice (some ⟨k, 0, none⟩) 1 1) (hc : w.rangeAt k 0 (pA p).toList)
    (hlen : l.length + 1 ≤ 1000) (hbase : base ≤ w.heap.size)
    (h : ∀ v' w', pOw w' base v' (l ++ [p]) → w.grownBy w' v.ownBlock → (v'.ownBlock = v.ownBlock ∨ v'.ownBlock = some w.heap.size) → wpList Tryd.prog ops Q rest (a.put o.dst v') w') : wpList Tryd.prog ops Q (o :: rest) a w := by
  obtain ⟨i0, hi, hz0, hz1, hz2⟩ := info_parts pinfo
  refine wpList_append_own_at w hgd s x 36 ho base 45 i0 pZ 5 40 Tryd.underlying36 hi hz0 hz1 hz2 rfl (by decide) v l.length (l.flatMap fun p => (pA p).toList) hs hown ⟨k, 0, none⟩ 1 1 (pA p).toList hx rfl ?_ (pA_one p) (by unfold maxLen; omega) (by omega) hbase (fun v' w' h1 h2 _ h3 => h v' w' ?_ h2 h3)
  · intro j u hj
    rw [Addr.add_lit]
    exact hc j u hj
  · unfold pOw
    rw [List.length_append, List.flatMap_append]
    simpa using h1
/-- a list of one plan is laid. -/
theorem pbuild {w : World} {ops : Array Oper} {rest : List Oper} {o : Oper} {a : Act} {Q : Exit → Act → World → Prop} (hgd : o.guard = none) (x : Operand) (ho : o.op = .buildSlice 36 1 #[(0, x)]) (p : Pn) (hx : a.eval x = pV p)
    (h : ∀ w', Kp w w' → w'.rangeAt w.heap.size 0 (pA p).toList → wpList Tryd.prog ops Q rest (a.put o.dst (.slice (some ⟨w.heap.size, 0, none⟩) 1 1)) w') : wpList Tryd.prog ops Q (o :: rest) a w := by
  obtain ⟨i, hi, hz0, hs, hby⟩ := info_parts pinfo
  have hr : (Instr.buildSlice 36 1 #[(0, pV p)]).run Tryd.prog w = .ok (.slice (some ⟨w.heap.size, 0, none⟩) 1 1) (w.alloc (.cells (pA p) 45)) := by
    refine run_buildSlice (P := Tryd.prog) w 36 45 1 _ (pA p) i _ Tryd.underlying36 hi hz0 (by rw [hs]; omega) (by rw [hs]; omega) ?_
    rw [hs]
    have := Go.Great.fill_whole (s := 5) (by omega) [.agg (pA p)] ((Array.range (1 * 5)).map (pZ.cells[· % pZ.cells.size]!)) (fun v hv => by rw [List.mem_singleton.1 hv]; rfl) (by simp)
    simpa [Value.cells, pV] using this
  have hK := h (w.alloc (.cells (pA p) 45)) ((Kp.refl w).alloc _) (fun j v hv => by rw [World.cell?_alloc_at _ _ _ _ rfl, Nat.zero_add]; simpa using hv)
  refine wpList_plain hgd fun K hK' => ?_
  unfold Oper.wp execOp
  simp only [ho]
  simp [hx, hr]
  exact hK' _ _ hK

/-! ### trunnionref25.Plan -/
def rA (p : Pn) : Array Value := #[.int .i64 p.1, .bool (p.2 0), .bool (p.2 1), .bool (p.2 2), .bool (p.2 3), .bool (p.2 4), .bool (p.2 5), .bool (p.2 6), .bool (p.2 7), .bool (p.2 8), .bool (p.2 9), .bool (p.2 10), .bool (p.2 11), .bool (p.2 12), .bool (p.2 13), .bool (p.2 14), .bool (p.2 15), .bool (p.2 16), .bool (p.2 17), .bool (p.2 18), .bool (p.2 19), .bool (p.2 20), .bool (p.2 21), .bool (p.2 22), .bool (p.2 23), .bool (p.2 24), .bool (p.2 25), .bool (p.2 26), .bool (p.2 27), .bool (p.2 28), .bool (p.2 29), .bool (p.2 30), .bool (p.2 31)]
def rV (p : Pn) : Value := .agg (rA p)
theorem rA_len (p : Pn) : (rA p).toList.length = 33 := rfl
theorem rA_one (p : Pn) : ∀ u ∈ (rA p).toList, u.oneCell' = true := by simp [rA, Value.oneCell']
def rZ : Value := .agg #[.int .i64 0, .bool false, .bool false, .bool false, .bool false, .bool false, .bool false, .bool false, .bool false, .bool false, .bool false, .bool false, .bool false, .bool false, .bool false, .bool false, .bool false, .bool false, .bool false, .bool false, .bool false, .bool false, .bool false, .bool false, .bool false, .bool false, .bool false, .bool false, .bool false, .bool false, .bool false, .bool false, .bool false]
theorem rinfo : (Tryd.prog.info? 49).map (fun i => (i.zero, i.size, i.bytes)) = some (some rZ, 33, 40) := by kernel_rfl
theorem rsize : (Tryd.prog.info? 49).map (·.size) = some 33 := by kernel_rfl
/-- a list of plans of the call's own. -/
def rOw (w : World) (base : Nat) (v : Value) (l : List Pn) : Prop := w.ownsRow base 49 33 v l.length (l.flatMap fun p => (rA p).toList)
theorem rOw.kept {w w' : World} {base : Nat} {v : Value} {l : List Pn} (h : rOw w base v l) (k : Kp w w') : rOw w' base v l := by
  rcases h.2 with ⟨h', h0⟩ | ⟨g, cap, cur, h', hb, hg, hr⟩
  · exact ⟨h.1, .inl ⟨h', h0⟩⟩
  · exact ⟨h.1, .inr ⟨g, cap, cur, h', hb, (k.block g (pheap_lt hg)).trans hg, hr⟩⟩
theorem rOw.nil (w : World) (base : Nat) : rOw w base (.slice none 0 0) [] := ⟨rfl, .inl ⟨rfl, rfl⟩⟩
theorem rOw.mono {w : World} {base base' : Nat} {v : Value} {l : List Pn} (h : rOw w base v l) (hb : base' ≤ base) : rOw w base' v l := by
  rcases h.2 with ⟨h', h0⟩ | ⟨g, cap, cur, h', hg, hr⟩
  · exact ⟨h.1, .inl ⟨h', h0⟩⟩
  · exact ⟨h.1, .inr ⟨g, cap, cur, h', Nat.le_trans hb hg, hr⟩⟩
theorem rOw.own {w : World} {base : Nat} {v : Value} {l : List Pn} (h : rOw w base v l) : ∀ g, v.ownBlock = some g → base ≤ g := by
  rcases h.2 with ⟨rfl, h0⟩ | ⟨g, cap, cur, rfl, hb, hg, hr⟩
  · intro g hg; cases hg
  · intro k hk
    have : some g = some k := hk
    injection this with this
    omega
/-- what a list is in memory. -/
theorem rOw.cells {w : World} {base : Nat} {v : Value} {l : List Pn} (h : rOw w base v l) : ∃ p c g, v = .slice p l.length c ∧ l.length ≤ c ∧ c ≤ 9223372036854775807 ∧ (0 < l.length → p = some ⟨g, 0, none⟩) ∧ ∀ i, i < l.length → w.rangeAt g (i * 33) (rA (l.getD i (0, noF))).toList := by
  have h0 := h
  rcases h.2 with ⟨h1, h2⟩ | ⟨g, cap, cur, h1, _, hg, hn, hm, hcs, htake⟩
  · subst h1
    have hl : l.length = 0 := h2
    exact ⟨none, 0, 0, by rw [hl], by omega, by omega, fun h => absurd h (by omega), fun i hi => absurd hi (by omega)⟩
  · subst h1
    refine ⟨_, cap, g, rfl, hn, by unfold maxLen at hm; omega, fun _ => rfl, fun i hi j u hj => ?_⟩
    have hj33 : j < 33 := by
      have := (List.getElem?_eq_some_iff.1 hj).1
      rwa [rA_len] at this
    have hlen := fm_len (c := fun p => (rA p).toList) (n := 33) rA_len l
    have hlt : i * 33 + j < l.length * 33 := by
      have : (i + 1) * 33 ≤ l.length * 33 := Nat.mul_le_mul_right _ hi
      rw [Nat.succ_mul] at this
      omega
    rw [World.ownsRow.cellAt h0 (i * 33 + j) (by omega), fm_at (c := fun p => (rA p).toList) (n := 33) rA_len l i j hi hj33]
    exact hj
/-- a plan appended. -/
theorem rappend {w : World} {ops : Array Oper} {rest : List Oper} {o : Oper} {a : Act} {Q : Exit → Act → World → Prop} (hgd : o.guard = none) (s x : Operand)
    (ho : o.op = .call { callee := .builtin .append, args := #[s, x], argTypes := #[40, 40] })
    (base : Nat) (v : Value) (l : List Pn) (hs : a.eval s = v) (hown : rOw w base v l) (p : Pn) (k : Nat) (hx : a.eval x = .slice (some ⟨k, 0, none⟩) 1 1) (hc : w.rangeAt k 0 (rA p).toList)
    (hlen : l.length + 1 ≤ 1000) (hbase : base ≤ w.heap.size)
    (h : ∀ v' w', rOw w' base v' (l ++ [p]) → w.grownBy w' v.ownBlock → (v'.ownBlock = v.ownBlock ∨ v'.ownBlock = some w.heap.size) → wpList Tryd.prog ops Q rest (a.put o.dst v') w') : wpList Tryd.prog ops Q (o :: rest) a w := by
  obtain ⟨i0, hi, hz0, hz1, hz2⟩ := info_parts rinfo
  refine wpList_append_own_at w hgd s x 40 ho base 49 i0 rZ 33 40 Tryd.underlying40 hi hz0 hz1 hz2 rfl (by decide) v l.length (l.flatMap fun p => (rA p).toList) hs hown ⟨k, 0, none⟩ 1 1 (rA p).toList hx rfl ?_ (rA_one p) (by unfold maxLen; omega) (by omega) hbase (fun v' w' h1 h2 _ h3 => h v' w' ?_ h2 h3)
  · intro j u hj
    rw [Addr.add_lit]
    exact hc j u hj
  · unfold rOw
    rw [List.length_append, List.flatMap_append]
    simpa using h1
/-- a list of one plan is laid. -/
theorem rbuild {w : World} {ops : Array Oper} {rest : List Oper} {o : Oper} {a : Act} {Q : Exit → Act → World → Prop} (hgd : o.guard = none) (x : Operand) (ho : o.op = .buildSlice 40 1 #[(0, x)]) (p : Pn) (hx : a.eval x = rV p)
    (h : ∀ w', Kp w w' → w'.rangeAt w.heap.size 0 (rA p).toList → wpList Tryd.prog ops Q rest (a.put o.dst (.slice (some ⟨w.heap.size, 0, none⟩) 1 1)) w') : wpList Tryd.prog ops Q (o :: rest) a w := by
  obtain ⟨i, hi, hz0, hs, hby⟩ := info_parts rinfo
  have hr : (Instr.buildSlice 40 1 #[(0, rV p)]).run Tryd.prog w = .ok (.slice (some ⟨w.heap.size, 0, none⟩) 1 1) (w.alloc (.cells (rA p) 49)) := by
    refine run_buildSlice (P := Tryd.prog) w 40 49 1 _ (rA p) i _ Tryd.underlying40 hi hz0 (by rw [hs]; omega) (by rw [hs]; omega) ?_
    rw [hs]
    have := Go.Great.fill_whole (s := 33) (by omega) [.agg (rA p)] ((Array.range (1 * 33)).map (rZ.cells[· % rZ.cells.size]!)) (fun v hv => by rw [List.mem_singleton.1 hv]; rfl) (by simp)
    simpa [Value.cells, rV] using this
  have hK := h (w.alloc (.cells (rA p) 49)) ((Kp.refl w).alloc _) (fun j v hv => by rw [World.cell?_alloc_at _ _ _ _ rfl, Nat.zero_add]; simpa using hv)
  refine wpList_plain hgd fun K hK' => ?_
  unfold Oper.wp execOp
  simp only [ho]
  simp [hx, hr]
  exact hK' _ _ hK

end Go.Proofs.YtffbachgbcefiaaDoor
