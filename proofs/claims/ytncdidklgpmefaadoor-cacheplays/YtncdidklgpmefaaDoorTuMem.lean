/-
  Rows of numbers of the call's own (OwnI), numbers in memory (InI), numbers appended, at any type of slices of ints; a row of cells with others put in. Conditions: that the cells hold the numbers.
-/
import Derived.Test.YtncdidklgpmefaaDoorQuFrm
import Derived.Laws.IdiomCopy
import Derived.Lib.SliceRun
import Derived.Deep.Quiet
import Derived.Deep.QuietTactic
import Derived.BigQuiet
namespace Go.Proofs.YtncdidklgpmefaaDoor
open Go.RowKit Plain
set_option linter.unusedVariables false

theorem grown_sp {w w' : World} {r : Option Nat} (g : w.grownBy w' r) : Sp r.toList w w' := by
  obtain ⟨g1, g2, g3, g4, g5⟩ := g
  exact ⟨g1, g2, g3, g4, fun k hk hn => g5 k hk (fun e => hn (by rw [← e]; simp))⟩

theorem hid {p : Prop} (h : p) : Hid p := h
theorem heap_lt {w : World} {a : Nat} {o : Obj} (h : w.heap[a]? = some o) : a < w.heap.size := (Array.getElem?_eq_some_iff.1 h).1
theorem cell_of {w : World} {a : Nat} {cs : Array Value} {t : TypeId} {f : Nat × Nat} (h : w.heap[a]? = some (.cells cs t f)) (j : Nat) : w.cell? ⟨a, j, none⟩ = cs[j]? := by
  unfold World.cell?
  simp [h]
theorem frozen_of {w : World} {a : Nat} {cs : Array Value} {t : TypeId} (h : w.heap[a]? = some (.cells cs t (0, 0))) (j : Nat) : w.frozen? ⟨a, j, none⟩ = false := by
  unfold World.frozen?
  simp [h]
theorem heap_set {w : World} {a : Nat} {cs : Array Value} {t : TypeId} (h : w.heap[a]? = some (.cells cs t (0, 0))) (j : Nat) (v : Value) : (w.setCell ⟨a, j, none⟩ v).heap[a]? = some (.cells (cs.setIfInBounds j v) t (0, 0)) := by
  rw [setCell_eq_setRow w a j _ t (0, 0) v h, setRow_heap w a _ _ t _ h]
theorem new_obj (w : World) (cs : Array Value) (t : TypeId) : (w.alloc (.cells cs t)).heap[w.heap.size]? = some (.cells cs t (0, 0)) := by unfold World.alloc; exact Array.getElem?_push_size
theorem Nz.of {σ : Type} {O : World → World → Nat → List Nat → σ → Prop} (L : OL O) {w0 w w' : World} {b : Nat} {T : List Nat} {S : σ} (h : O w0 w b T S) (k : Kp w w') : Nz O w0 w w' b T S := ⟨T, L.sp h (k.sp []) (fun _ _ h => by cases h), k.sp _, Nw.refl _ _⟩

theorem Kp.drewN {a b : World} (h : Kp a b) (n : Nat) : Kp a (b.drewN n) := ⟨h.os, h.tape, h.output, h.size, h.block⟩
theorem imin {P : Program} (ts : Array TypeId) (t : TypeId) (x y : Int) (w : World) : (Builtin.min_ ts t #[.int .i64 x, .int .i64 y]).run P w = .ok (.int .i64 (min x y)) w := by
  rw [run_min_int2]
  congr 2
  split <;> omega
theorem imax {P : Program} (ts : Array TypeId) (t : TypeId) (x y : Int) (w : World) : (Builtin.max_ ts t #[.int .i64 x, .int .i64 y]).run P w = .ok (.int .i64 (max x y)) w := by
  rw [run_max_int2]
  congr 2
  split <;> omega

/-- a row of cells with others put in. -/
def pu (cs : List Value) (o : Nat) (vs : List Value) : List Value := cs.take o ++ (vs ++ cs.drop (o + vs.length))
theorem pu_len {cs vs : List Value} {o : Nat} (h : o + vs.length ≤ cs.length) : (pu cs o vs).length = cs.length := by
  unfold pu
  simp only [List.length_append, List.length_take, List.length_drop]
  omega
theorem pu_app (A B vs : List Value) (o : Nat) (h : A.length = o) : pu (A ++ B) o vs = A ++ (vs ++ B.drop vs.length) := by
  subst h
  unfold pu
  rw [List.take_left, ← List.drop_drop, List.drop_left]
theorem pu_nil (cs : List Value) (o : Nat) : pu cs o [] = cs := by unfold pu; simp
theorem pu_cons {cs : List Value} {o : Nat} (v : Value) (r : List Value) (h : o < cs.length) : pu (cs.set o v) (o + 1) r = pu cs o (v :: r) := by
  have e : cs = cs.take o ++ cs[o] :: cs.drop (o + 1) := by rw [← List.drop_eq_getElem_cons h, List.take_append_drop]
  have hl : (cs.take o).length = o := by rw [List.length_take]; omega
  obtain ⟨A, hA⟩ : ∃ A, A = cs.take o := ⟨_, rfl⟩
  obtain ⟨B, hB⟩ : ∃ B, B = cs.drop (o + 1) := ⟨_, rfl⟩
  obtain ⟨y, hy⟩ : ∃ y, y = cs[o] := ⟨_, rfl⟩
  rw [← hA] at hl
  rw [← hA, ← hB, ← hy] at e
  rw [e]
  clear e hA hB hy
  subst hl
  rw [List.set_append_right _ _ (Nat.le_refl _), Nat.sub_self, List.set_cons_zero]
  rw [show A ++ v :: B = (A ++ [v]) ++ B by simp, pu_app (A ++ [v]) B r (A.length + 1) (by simp), pu_app A (y :: B) (v :: r) A.length rfl]
  simp

/-- a row of a block of its own, of cap numbers. -/
structure Rr (w : World) (g cap : Nat) (cs : List Value) : Prop where
  h : w.heap[g]? = some (.cells cs.toArray 3 (0, 0))
  n : cs.length = cap
section
variable {w : World} {g cap : Nat} {cs : List Value}
theorem Rr.low (R : Rr w g cap cs) : g < w.heap.size := (Array.getElem?_eq_some_iff.1 R.h).1
theorem Rr.cell (R : Rr w g cap cs) (j : Nat) : w.cell? ⟨g, j, none⟩ = cs[j]? := by
  unfold World.cell?
  simp [R.h]
theorem Rr.there (R : Rr w g cap cs) (j : Nat) (hj : j < cap) : (w.cell? ⟨g, j, none⟩).isSome = true := by
  rw [R.cell, List.getElem?_eq_getElem (by rw [R.n]; exact hj)]; rfl
theorem Rr.frozen (R : Rr w g cap cs) (j : Nat) : w.frozen? ⟨g, j, none⟩ = false := by
  unfold World.frozen?
  simp [R.h]
theorem Rr.drew (R : Rr w g cap cs) : Rr w.drew g cap cs := ⟨R.h, R.n⟩
theorem Rr.sp {w' : World} {T : List Nat} (R : Rr w g cap cs) (k : Sp T w w') (hg : g ∉ T) : Rr w' g cap cs := ⟨(k.block g R.low hg).trans R.h, R.n⟩
theorem Rr.kept {w' : World} (R : Rr w g cap cs) (k : Kp w w') : Rr w' g cap cs := ⟨(k.block g R.low).trans R.h, R.n⟩
theorem Rr.set (R : Rr w g cap cs) (o : Nat) (v : Value) : Rr (w.setCell ⟨g, o, none⟩ v) g cap (cs.set o v) := by
  refine ⟨?_, by rw [List.length_set]; exact R.n⟩
  rw [setCell_eq_setRow w g o _ 3 (0, 0) v R.h, setRow_heap w g _ _ 3 _ R.h]
  simp
theorem Rr.sets (g cap : Nat) : ∀ (vs : List Value) (o : Nat) (w : World) (cs : List Value), Rr w g cap cs → o + vs.length ≤ cap → Rr (w.setCells g o vs) g cap (pu cs o vs)
  | [], o, w, cs, R, _ => by rw [pu_nil]; exact R
  | v :: r, o, w, cs, R, h => by
    rw [World.setCells]
    have := Rr.sets g cap r (o + 1) _ _ (R.set o v) (by simp only [List.length_cons] at h; omega)
    rwa [pu_cons v r (by simp only [List.length_cons] at h; rw [R.n]; omega)] at this
end


/-! ### rows of numbers -/
def nv (l : List Int) : List Value := l.map (Value.int .i64)
theorem nv_len (l : List Int) : (nv l).length = l.length := by unfold nv; exact List.length_map _
theorem nv_app (l m : List Int) : nv (l ++ m) = nv l ++ nv m := by unfold nv; exact List.map_append
theorem nv_one (l : List Int) : ∀ u ∈ nv l, u.oneCell' = true := by
  intro u h
  unfold nv at h
  obtain ⟨x, _, rfl⟩ := List.mem_map.1 h
  rfl
theorem nv_at (l : List Int) (i : Nat) (h : i < l.length) : (nv l)[i]? = some (.int .i64 (l.getD i 0)) := by
  unfold nv
  simp [List.getD_eq_getElem?_getD, h]
def OwnI (w : World) (base : Nat) (v : Value) (l : List Int) : Prop := w.ownsRow base 3 1 v l.length (nv l)
section
variable {w w' : World} {base : Nat} {v : Value} {l : List Int}
theorem OwnI.kept (h : OwnI w base v l) (k : Kp w w') : OwnI w' base v l := k.own h
theorem OwnI.sp {T : List Nat} (h : OwnI w base v l) (k : Sp T w w') (hT : ∀ g, v.ownBlock = some g → g ∉ T) : OwnI w' base v l := k.own h hT
theorem OwnI.lt (h : OwnI w base v l) : ∀ g, v.ownBlock = some g → base ≤ g ∧ g < w.heap.size := fun g hg => World.ownsRow.lt h g hg
theorem OwnI.row (h : OwnI w base v l) : (v = .slice none 0 0 ∧ l = []) ∨ ∃ g cap cs, v = .slice (some ⟨g, 0, none⟩) l.length cap ∧ base ≤ g ∧ Rr w g cap cs ∧ l.length ≤ cap ∧ cap ≤ maxLen ∧ cs.take l.length = nv l := by
  rcases h.2 with ⟨rfl, h0⟩ | ⟨g, cap, cur, rfl, hb, hg, hn, hm, hs, ht⟩
  · exact .inl ⟨rfl, List.eq_nil_of_length_eq_zero h0⟩
  · exact .inr ⟨g, cap, cur.toList, rfl, hb, ⟨by simpa using hg, by simpa using hs⟩, hn, hm, by simpa using ht⟩
end
theorem OwnI.nil (w : World) (base : Nat) : OwnI w base (.slice none 0 0) [] := ⟨rfl, .inl ⟨rfl, rfl⟩⟩
theorem OwnI.of {w : World} {base g cap : Nat} {cs : List Value} {l : List Int} (R : Rr w g cap cs) (hb : base ≤ g) (hn : l.length ≤ cap) (hm : cap ≤ maxLen) (ht : cs.take l.length = nv l) (n : Nat) (hl : n = l.length) : OwnI w base (.slice (some ⟨g, 0, none⟩) n cap) l := by
  subst hl
  exact ⟨by rw [nv_len, Nat.mul_one], .inr ⟨g, cap, cs.toArray, rfl, hb, R.h, hn, hm, by simpa using R.n, by simpa using ht⟩⟩
theorem OwnI.slc {w : World} {base : Nat} {v : Value} {l : List Int} (h : OwnI w base v l) : ∃ p n c, v = .slice p n c := by
  rcases h.row with ⟨rfl, _⟩ | ⟨g, cap, cs, rfl, _⟩ <;> exact ⟨_, _, _, rfl⟩
theorem OwnI.mono {w : World} {base base' : Nat} {v : Value} {l : List Int} (h : OwnI w base v l) (hb : base' ≤ base) : OwnI w base' v l := by
  rcases h.2 with ⟨h', h0⟩ | ⟨g, cap, cur, h', hg, hr⟩
  · exact ⟨h.1, .inl ⟨h', h0⟩⟩
  · exact ⟨h.1, .inr ⟨g, cap, cur, h', Nat.le_trans hb hg, hr⟩⟩
/-- numbers in memory. -/
def InI (w : World) (v : Value) (l : List Int) : Prop := ∃ a g cap, v = .slice a l.length cap ∧ l.length ≤ cap ∧ cap ≤ 9223372036854775807 ∧ (0 < l.length → a = some ⟨g, 0, none⟩) ∧ (a = none → cap = 0) ∧ ∀ j, j < l.length → w.cell? ⟨g, j, none⟩ = some (.int .i64 (l.getD j 0))
theorem OwnI.ints {w : World} {base : Nat} {v : Value} {l : List Int} (h : OwnI w base v l) : InI w v l := by
  rcases h.row with ⟨rfl, rfl⟩ | ⟨g, cap, cs, rfl, _, R, hle, hcm, ht⟩
  · exact ⟨none, 0, 0, rfl, by simp, by omega, fun h => absurd h (by simp), fun _ => rfl, fun j h => absurd h (by simp)⟩
  · refine ⟨_, g, cap, rfl, hle, by unfold maxLen at hcm; omega, fun _ => rfl, fun h => (by cases h), fun j hj => ?_⟩
    rw [World.ownsRow.cellAt h j (by omega)]
    exact nv_at l j hj
theorem InI.kept {w w' : World} {v : Value} {l : List Int} (h : InI w v l) (k : Kp w w') : InI w' v l := by
  obtain ⟨a, g, cap, rfl, h1, h2, h3, h4, h5⟩ := h
  exact ⟨a, g, cap, rfl, h1, h2, h3, h4, fun j hj => k.held (h5 j hj)⟩
/-- a literal row of numbers. -/
theorem InI.lit {w : World} {l : List Int} {t : TypeId} (hl : 0 < l.length) (hm : l.length ≤ 1000) : InI (w.alloc (.cells (nv l).toArray t)) (.slice (some ⟨w.heap.size, 0, none⟩) l.length l.length) l := by
  refine ⟨_, w.heap.size, l.length, rfl, Nat.le_refl _, by omega, fun _ => rfl, fun h => (by cases h), fun j hj => ?_⟩
  rw [cell_of (new_obj _ _ _)]
  simpa using nv_at l j hj
/-- numbers appended. -/
theorem wpList_append_nums {w : World} {ops : Array Oper} {rest : List Oper} {o : Oper} {a : Act} {Q : Exit → Act → World → Prop} (hgd : o.guard = none) (s x : Operand) (t : TypeId)
    (ho : o.op = .call { callee := .builtin .append, args := #[s, x], argTypes := #[t, t] }) (hu : Tryd.prog.underlying t = some (.slice 3))
    (base : Nat) (v : Value) (l : List Int) (hs : a.eval s = v) (hown : OwnI w base v l) (vx : Value) (m : List Int) (hx : a.eval x = vx) (hm : InI w vx m)
    (hlen : l.length + m.length ≤ 1099511627776) (hbase : base ≤ w.heap.size)
    (h : ∀ v' w', OwnI w' base v' (l ++ m) → w.grownBy w' v.ownBlock → (v'.ownBlock = v.ownBlock ∨ v'.ownBlock = some w.heap.size) → wpList Tryd.prog ops Q rest (a.put o.dst v') w') : wpList Tryd.prog ops Q (o :: rest) a w := by
  obtain ⟨i0, hi, hz0, hz1, hz2⟩ := info_parts info_int
  obtain ⟨ao, g, cap, rfl, h1, h2, h3, h4, h5⟩ := hm
  have hK : ∀ v' w', w'.ownsRow base 3 1 v' (l.length + m.length) (nv l ++ nv m) → OwnI w' base v' (l ++ m) := fun v' w' hh => by
    unfold OwnI
    rw [List.length_append, nv_app]
    exact hh
  cases ao with
  | some p =>
    obtain ⟨pb, po, pe⟩ := p
    refine wpList_append_own_at w hgd s x t ho base 3 i0 (.int .i64 0) 1 8 hu hi hz0 hz1 hz2 rfl (by decide) v l.length (nv l) hs hown ⟨pb, po, pe⟩ m.length cap (nv m) hx (by rw [nv_len, Nat.mul_one]) ?_ (nv_one m) (by unfold maxLen; omega) (by omega) hbase (fun v' w' h1 h2 _ h3 => h v' w' (hK _ _ h1) h2 h3)
    intro j u hj
    have hj2 : j < m.length := by
      have := (List.getElem?_eq_some_iff.1 hj).1
      rwa [nv_len] at this
    have hp := h3 (by omega)
    cases hp
    rw [Addr.add_lit, Nat.zero_add, h5 j hj2, ← hj, nv_at m j hj2]
  | none =>
    obtain rfl := h4 rfl
    obtain rfl : m = [] := List.eq_nil_of_length_eq_zero (by omega)
    refine wpList_append_own_none hgd s x t ho base 3 i0 1 hu hi v l.length (nv l) hs hown hx (h v w (by rw [List.append_nil]; exact hown) (World.grownBy.refl _ _) (.inl rfl))
/-- one number, in a literal. -/
theorem InI.one (w : World) (x : Int) (t : TypeId) (k : Nat) (hk : k = w.heap.size) : InI (w.alloc (.cells #[.int .i64 x] t)) (.slice (some ⟨k, 0, none⟩) 1 1) [x] := by
  subst hk
  exact InI.lit (l := [x]) (by simp) (by simp)

end Go.Proofs.YtncdidklgpmefaaDoor
