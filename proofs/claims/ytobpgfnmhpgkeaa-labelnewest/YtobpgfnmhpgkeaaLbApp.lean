/-
  One element appended to a row of the call's own: what is left (Ap), as a step of a plain statement and as one of a statement that draws its order. Conditions: that the row is the call's own.
-/
import Derived.Test.YtobpgfnmhpgkeaaLbByt
namespace Go.Proofs.Ytobpgfnmhpgkeaa
open Go.RowKit Plain
set_option linter.unusedVariables false

/-- w' is w behind an append to the row v, which is v' now. -/
structure Ap (w w' : World) (v v' : Value) : Prop where
  g : w.grownBy w' v.ownBlock
  own : v'.ownBlock = v.ownBlock ∨ v'.ownBlock = some w.heap.size
theorem Ap.kp {w w' W : World} {v v' : Value} (h : Ap w w' v v') (k : Kp W w) (hb : ∀ b, v.ownBlock = some b → W.heap.size ≤ b) : Kp W w' := k.grown h.g hb
theorem Ap.cell {w w' : World} {v v' : Value} (h : Ap w w' v v') {b o : Nat} {u : Value} (hb : v.ownBlock ≠ some b) (hc : w.cell? ⟨b, o, none⟩ = some u) : w'.cell? ⟨b, o, none⟩ = some u :=
  h.g.cell (a := ⟨b, o, none⟩) hc (fun e => hb e.symm)
theorem Ap.ne {w w' : World} {v v' : Value} (h : Ap w w' v v') {b : Nat} (hb : b < w.heap.size) (hv : v.ownBlock ≠ some b) : v'.ownBlock ≠ some b := by
  rcases h.own with e | e
  · rw [e]; exact hv
  · rw [e]; intro e2; have := Option.some.inj e2; omega
theorem Ap.size {w w' : World} {v v' : Value} (h : Ap w w' v v') : w.heap.size ≤ w'.heap.size := h.g.size
theorem Fb.app {w : World} {base : Nat} {v : Value} {n : Nat} {f : Nat → Nat} (hown : Fb w base v n f) (p k : Nat) (hc : w.cell? ⟨k, 0, none⟩ = some (.int .u8 (p : Int))) (hlen : n ≤ 1000) (hbase : base ≤ w.heap.size) (ty : TypeId) :
    ∃ v' w', (Builtin.append_ #[48, 48] ty #[v, .slice (some ⟨k, 0, none⟩) 1 1]).run Try.prog w = .ok v' w' ∧ Fb w' base v' (n + 1) (fun i => if i = n then p else f i) ∧ Ap w w' v v' := by
  obtain ⟨i0, hi, hz0, hz1, hz2⟩ := info_parts info_u8
  obtain ⟨v', w', hr, h2, h3, h4, h5⟩ := run_append_own_at (P := Try.prog) w base 48 ty 5 i0 (.int .u8 0) 1 1 Try.underlying48 hi hz0 hz1 hz2 rfl (by decide) v n _ hown ⟨k, 0, none⟩ 1 1 [.int .u8 (p : Int)] rfl (fun j u hj => by
    match j, hj with
    | 0, hj => simp at hj; subst hj; simpa [Addr.add] using hc) (by simp [Value.oneCell']) (by unfold maxLen; omega) (by omega) hbase
  refine ⟨v', w', hr, ?_, ⟨h3, h5⟩⟩
  unfold Fb
  rw [← Fb.snoc_list]
  exact h2
/-- a row of bytes that grows: the call's own, or one that is full. -/
def Fr (w : World) (base : Nat) (v : Value) (n : Nat) (f : Nat → Nat) : Prop := Fb w base v n f ∨ ∃ g, v = .slice (some ⟨g, 0, none⟩) n n ∧ base ≤ g ∧ g < w.heap.size ∧ ∀ j, j < n → w.cell? ⟨g, j, none⟩ = some (.int .u8 ((f j : Nat) : Int))
theorem Fr.kept {w w' : World} {base : Nat} {v : Value} {n : Nat} {f : Nat → Nat} (h : Fr w base v n f) (k : Kp w w') : Fr w' base v n f := by
  rcases h with h | ⟨g, h1, h2, h3, h4⟩
  · exact .inl (h.kept k)
  · exact .inr ⟨g, h1, h2, Nat.lt_of_lt_of_le h3 k.size, fun j hj => k.held (h4 j hj)⟩
theorem Fr.low {w : World} {base : Nat} {v : Value} {n : Nat} {f : Nat → Nat} (h : Fr w base v n f) : ∀ k, v.ownBlock = some k → base ≤ k ∧ k < w.heap.size := by
  rcases h with h | ⟨g, rfl, h2, h3, h4⟩
  · exact fun k hk => World.ownsRow.lt h k hk
  · intro k hk
    obtain rfl : g = k := Option.some.inj hk
    exact ⟨h2, h3⟩
theorem Fr.congr {w : World} {base : Nat} {v : Value} {n : Nat} {f g : Nat → Nat} (h : Fr w base v n f) (he : ∀ j, j < n → f j = g j) : Fr w base v n g := by
  rcases h with h | ⟨b, h1, h2, h3, h4⟩
  · exact .inl (h.congr he)
  · exact .inr ⟨b, h1, h2, h3, fun j hj => by rw [← he j hj]; exact h4 j hj⟩
theorem Fr.text {w : World} {base : Nat} {v : Value} {n : Nat} {f : Nat → Nat} (h : Fr w base v n f) (h0 : 0 < n) : (convert 48 9 v).run Try.prog w = .ok (.string (bs n f)) w := by
  rcases h with h | ⟨b, rfl, h2, h3, h4⟩
  · obtain ⟨g, cap, rfl, _⟩ := h.shape h0
    exact h.byt.text n cap (Nat.le_refl _)
  · refine run_convert_bytes_arg (P := Try.prog) w 48 5 Try.underlying48 Try.underlying5 b 0 n n ((List.range n).map fun i => ((f i : Nat) : Int)) (by simp) (fun i hi => ?_) 9 Try.underlying9
    rw [Nat.zero_add, h4 i (by simpa using hi)]
    simp only [List.getD_eq_getElem?_getD, List.getElem?_map]
    rw [List.getElem?_range (by simpa using hi)]
    rfl
theorem Fr.len {w : World} {base : Nat} {v : Value} {n : Nat} {f : Nat → Nat} (h : Fr w base v n f) (h0 : 0 < n) : ∃ g cap, v = .slice (some ⟨g, 0, none⟩) n cap := by
  rcases h with h | ⟨b, rfl, h2, h3, h4⟩
  · obtain ⟨g, cap, rfl, _⟩ := h.shape h0
    exact ⟨g, cap, rfl⟩
  · exact ⟨b, n, rfl⟩
theorem Fr.app {w : World} {base : Nat} {v : Value} {n : Nat} {f : Nat → Nat} (hown : Fr w base v n f) (p k : Nat) (hc : w.cell? ⟨k, 0, none⟩ = some (.int .u8 (p : Int))) (hlen : n ≤ 1000) (hbase : base ≤ w.heap.size) (ty : TypeId) :
    ∃ v' w', (Builtin.append_ #[48, 48] ty #[v, .slice (some ⟨k, 0, none⟩) 1 1]).run Try.prog w = .ok v' w' ∧ Fr w' base v' (n + 1) (fun i => if i = n then p else f i) ∧ Ap w w' v v' := by
  rcases hown with h | ⟨g, rfl, h2, h3, h4⟩
  · obtain ⟨v', w', hr, h5, h6⟩ := h.app p k hc hlen hbase ty
    exact ⟨v', w', hr, .inl h5, h6⟩
  · obtain ⟨i0, hi, hz0, hz1, hz2⟩ := info_parts info_u8
    have hxl : ((List.range n).map fun i => Value.int .u8 ((f i : Nat) : Int)).length = n * i0.size := by rw [hz1]; simp
    have hr := run_append_grow (P := Try.prog) w 48 ty 5 i0 (.int .u8 0) Try.underlying48 hi hz0 ⟨g, 0, none⟩ n n ((List.range n).map fun i => Value.int .u8 ((f i : Nat) : Int)) hxl (fun j u hj => by
        have hjn : j < n := by have := (List.getElem?_eq_some_iff.1 hj).1; simpa using this
        have hadd : (⟨g, 0, none⟩ : Addr).add j = ⟨g, j, none⟩ := by unfold Addr.add; split <;> simp_all
        rw [hadd, h4 j hjn]
        simp [hjn] at hj
        rw [hj]) ⟨k, 0, none⟩ 1 1 [.int .u8 (p : Int)] (by rw [hz1]; rfl) (fun j u hj => by
        match j, hj with
        | 0, hj => simp at hj; subst hj; simpa [Addr.add] using hc) (by omega) (by omega) (growslice_fits (by omega) (by rw [hz2]; omega))
    refine ⟨_, _, hr, .inl ?_, ⟨⟨rfl, rfl, rfl, by simp, fun j hj _ => heap_alloc_old w.drew _ hj⟩, .inr rfl⟩⟩
    unfold Fb
    rw [← Fb.snoc_list]
    have hge := grownCap_ge w (n + 1) n 5
    have hcm : grownCap w (n + 1) n 5 ≤ maxLen := grownCap_le_maxLen w (n + 1) n 5 (by unfold maxLen; omega)
    refine ⟨by simp, .inr ⟨w.heap.size, _, _, rfl, hbase, heap_alloc_new w.drew _, hge, hcm, ?_, ?_⟩⟩
    · simp only [Array.size_append, List.size_toArray, size_zeroCells]
      simp [Value.cells]
      omega
    · simp only [Array.toList_append, List.append_assoc]
      rw [← List.append_assoc]
      have e : (n + 1) * 1 = (((List.range n).map fun i => Value.int .u8 ((f i : Nat) : Int)) ++ [Value.int .u8 (p : Int)]).length := by simp
      rw [e]
      exact List.take_left
theorem Fr.next {w : World} {base : Nat} {v : Value} {n : Nat} {f g : Nat → Nat} {x : Nat} (h : Fr w base v (n + 1) (fun i => if i = n then x else f i)) (h1 : ∀ i, i < n → f i = g i) (h2 : x = g n) : Fr w base v (n + 1) g :=
  h.congr (fun i hi => by
    by_cases e : i = n
    · rw [if_pos e, e, h2]
    · rw [if_neg e]; exact h1 i (by omega))
theorem wpList_app_u8 {w : World} {ops : Array Oper} {rest : List Oper} {o : Oper} {a : Act} {Q : Exit → Act → World → Prop} (hgd : o.guard = none) (s x : Operand)
    (ho : o.op = .call { callee := .builtin .append, args := #[s, x], argTypes := #[48, 48] })
    (base : Nat) (v : Value) (n : Nat) (f : Nat → Nat) (hs : a.eval s = v) (hown : Fr w base v n f) (p k : Nat) (hx : a.eval x = .slice (some ⟨k, 0, none⟩) 1 1) (hc : w.cell? ⟨k, 0, none⟩ = some (.int .u8 (p : Int)))
    (hlen : n ≤ 1000) (hbase : base ≤ w.heap.size)
    (h : ∀ v' w', Fr w' base v' (n + 1) (fun i => if i = n then p else f i) → Ap w w' v v' → wpList Try.prog ops Q rest (a.put o.dst v') w') : wpList Try.prog ops Q (o :: rest) a w := by
  refine wpList_plain hgd fun K hK => ?_
  obtain ⟨v', w', hr, h2, h3⟩ := hown.app p k hc hlen hbase o.type
  unfold Oper.wp execOp
  simp only [ho, resolve, invoke, builtin, Sem.run_bind, Sem.run_pure, Result.andThen_ok, List.map_toArray, List.map_cons, List.map_nil, hs, hx, hr]
  exact hK _ _ (h v' w' h2 h3)
theorem step_app_u8 {w : World} {ops : Array Oper} {o : Oper} {a : Act} {K : Act → World → Prop} {Q : Exit → Act → World → Prop} {E : Prop} (hgd : o.guard = none) (s x : Operand)
    (ho : o.op = .call { callee := .builtin .append, args := #[s, x], argTypes := #[48, 48] })
    (base : Nat) (v : Value) (n : Nat) (f : Nat → Nat) (hs : a.eval s = v) (hown : Fr w base v n f) (p k : Nat) (hx : a.eval x = .slice (some ⟨k, 0, none⟩) 1 1) (hc : w.cell? ⟨k, 0, none⟩ = some (.int .u8 (p : Int)))
    (hlen : n ≤ 1000) (hbase : base ≤ w.heap.size)
    (cont : ∀ v' w', Fr w' base v' (n + 1) (fun i => if i = n then p else f i) → Ap w w' v v' → K (a.put o.dst v') w') : if Region.wanted o (yielded ops a.tmps) = true then Oper.wp Try.prog o a w K Q else E := by
  have hw : Region.wanted o (yielded ops a.tmps) = true := by simp [Region.wanted, hgd]
  rw [if_pos hw]
  obtain ⟨v', w', hrun, h1, h2⟩ := hown.app p k hc hlen hbase o.type
  unfold Oper.wp
  simp [execOp, ho, resolve, invoke, builtin, hs, hx, hrun, Result.andThen]
  exact cont v' w' h1 h2

/-! ### numbers: lists of whole numbers, lists of states -/
structure Ei (t e : TypeId) : Prop where
  u : Try.prog.underlying t = some (.slice e)
  i : (Try.prog.info? e).map (fun i => (i.zero, i.size, i.bytes)) = some (some (.int .i64 0), 1, 8)
theorem eiI : Ei 22 3 := ⟨Try.underlying22, by kernel_rfl⟩
theorem eiS : Ei 27 67 := ⟨Try.underlying27, by kernel_rfl⟩
def Oi (e : TypeId) (w : World) (base : Nat) (v : Value) (l : List Int) : Prop := w.ownsRow base e 1 v l.length (l.map (Value.int .i64))
theorem Oi.kept {e : TypeId} {w w' : World} {base : Nat} {v : Value} {l : List Int} (h : Oi e w base v l) (k : Kp w w') : Oi e w' base v l := k.own h
theorem Oi.nil (e : TypeId) (w : World) (base : Nat) : Oi e w base (.slice none 0 0) [] := World.ownsRow_nil _ _ _ _
theorem Oi.fe {e : TypeId} {w : World} {base : Nat} {v : Value} {l : List Int} (h : Oi e w base v l) : Fe e w base v l.length (fun i => l.getD i 0) := by
  have e : ((List.range l.length).map fun i => Value.int .i64 (l.getD i 0)) = l.map (Value.int .i64) := by
    apply List.ext_getElem?
    intro i
    rw [List.getElem?_map, List.getElem?_map]
    by_cases hi : i < l.length
    · rw [List.getElem?_range hi, List.getElem?_eq_getElem hi]
      simp [List.getD_eq_getElem?_getD, hi]
    · rw [List.getElem?_eq_none (by simpa using hi), List.getElem?_eq_none (by omega)]; rfl
  unfold Fe
  rw [e]
  exact h
theorem Oi.nums {e : TypeId} {w : World} {base : Nat} {v : Value} {l : List Int} (h : Oi e w base v l) : Nl w v l := by
  have h1 := h.fe.nums
  rwa [list_of l l.length (fun i => l.getD i 0) rfl (fun i _ => rfl)] at h1
theorem Oi.low {e : TypeId} {w : World} {base : Nat} {v : Value} {l : List Int} (h : Oi e w base v l) : ∀ k, v.ownBlock = some k → base ≤ k ∧ k < w.heap.size := fun k hk => World.ownsRow.lt h k hk
theorem Oi.app {t e : TypeId} (he : Ei t e) {w : World} {base : Nat} {v : Value} {l : List Int} (hown : Oi e w base v l) (p : Int) (k : Nat) (hc : w.cell? ⟨k, 0, none⟩ = some (.int .i64 p)) (hlen : l.length ≤ 1000) (hbase : base ≤ w.heap.size) (ty : TypeId) :
    ∃ v' w', (Builtin.append_ #[t, t] ty #[v, .slice (some ⟨k, 0, none⟩) 1 1]).run Try.prog w = .ok v' w' ∧ Oi e w' base v' (l ++ [p]) ∧ Ap w w' v v' := by
  obtain ⟨i0, hi, hz0, hz1, hz2⟩ := info_parts he.i
  obtain ⟨v', w', hr, h2, h3, h4, h5⟩ := run_append_own_at (P := Try.prog) w base t ty e i0 (.int .i64 0) 1 8 he.u hi hz0 hz1 hz2 rfl (by decide) v l.length _ hown ⟨k, 0, none⟩ 1 1 [.int .i64 p] rfl (fun j u hj => by
    match j, hj with
    | 0, hj => simp at hj; subst hj; simpa [Addr.add] using hc) (by simp [Value.oneCell']) (by unfold maxLen; omega) (by omega) hbase
  refine ⟨v', w', hr, ?_, ⟨h3, h5⟩⟩
  unfold Oi
  rw [List.length_append, List.map_append]
  exact h2
theorem step_app_i {t e : TypeId} (he : Ei t e) {w : World} {ops : Array Oper} {o : Oper} {a : Act} {K : Act → World → Prop} {Q : Exit → Act → World → Prop} {E : Prop} (hgd : o.guard = none) (s x : Operand)
    (ho : o.op = .call { callee := .builtin .append, args := #[s, x], argTypes := #[t, t] })
    (base : Nat) (v : Value) (l : List Int) (hs : a.eval s = v) (hown : Oi e w base v l) (p : Int) (k : Nat) (hx : a.eval x = .slice (some ⟨k, 0, none⟩) 1 1) (hc : w.cell? ⟨k, 0, none⟩ = some (.int .i64 p))
    (hlen : l.length ≤ 1000) (hbase : base ≤ w.heap.size)
    (cont : ∀ v' w', Oi e w' base v' (l ++ [p]) → Ap w w' v v' → K (a.put o.dst v') w') : if Region.wanted o (yielded ops a.tmps) = true then Oper.wp Try.prog o a w K Q else E := by
  have hw : Region.wanted o (yielded ops a.tmps) = true := by simp [Region.wanted, hgd]
  rw [if_pos hw]
  obtain ⟨v', w', hrun, h1, h2⟩ := hown.app he p k hc hlen hbase o.type
  unfold Oper.wp
  simp [execOp, ho, resolve, invoke, builtin, hs, hx, hrun, Result.andThen]
  exact cont v' w' h1 h2
/-- a row of a literal's. -/
theorem Fb.lit {w : World} (base : Nat) (hb : base ≤ w.heap.size) (cs : Array Value) (n : Nat) (hn : n = cs.size) (hm : n ≤ 1000) (f : Nat → Nat) (hc : cs.toList = (List.range n).map fun i => Value.int .u8 ((f i : Nat) : Int)) : Fb (w.alloc (.cells cs 5)) base (.slice (some ⟨w.heap.size, 0, none⟩) n n) n f := by
  refine ⟨by simp, .inr ⟨w.heap.size, n, cs, rfl, hb, heap_alloc_new w _, Nat.le_refl _, by unfold maxLen; omega, by omega, ?_⟩⟩
  rw [← hc, hn, Nat.mul_one, ← Array.length_toList, List.take_length]
theorem Fb.low {w : World} {base : Nat} {v : Value} {n : Nat} {f : Nat → Nat} (h : Fb w base v n f) : ∀ k, v.ownBlock = some k → base ≤ k ∧ k < w.heap.size := fun k hk => World.ownsRow.lt h k hk

end Go.Proofs.Ytobpgfnmhpgkeaa
