/-
  Rows of keys of the call's own (Ow), lists of keys in memory (WtIn), an append of keys, a clear of elements of two cells. Conditions: that the cells hold the keys.
-/
import Derived.Test.YtcmomebjkbhboaaLfPlain
import Derived.Laws.IdiomCopy
import Derived.Lib.SliceRun
namespace Go.Proofs.Ytcmomebjkbhboaa
open Go.RowKit Plain
set_option linter.unusedVariables false

/-- a row of items of the call's own. -/
def Ow (w : World) (base : Nat) (e : TypeId) (v : Value) (l : List Wt) : Prop := w.ownsRow base e 2 v l.length (wv l)
theorem Ow.kept {w w' : World} {base : Nat} {e : TypeId} {v : Value} {l : List Wt} (h : Ow w base e v l) (k : Kp w w') : Ow w' base e v l := (k.sp []).own h (fun _ _ h => by cases h)
theorem Ow.sp {w w' : World} {base : Nat} {e : TypeId} {v : Value} {l : List Wt} {T : List Nat} (h : Ow w base e v l) (k : Sp T w w') (hT : ∀ g, v.ownBlock = some g → g ∉ T) : Ow w' base e v l := k.own h hT
theorem Ow.nil (w : World) (base : Nat) (e : TypeId) : Ow w base e (.slice none 0 0) [] := ⟨rfl, .inl ⟨rfl, rfl⟩⟩
theorem Ow.lt {w : World} {base : Nat} {e : TypeId} {v : Value} {l : List Wt} (h : Ow w base e v l) : ∀ g, v.ownBlock = some g → base ≤ g ∧ g < w.heap.size := fun g hg => World.ownsRow.lt h g hg
theorem Ow.row {w : World} {base : Nat} {e : TypeId} {v : Value} {l : List Wt} (h : Ow w base e v l) : (v = .slice none 0 0 ∧ l = []) ∨ ∃ g cap cs, v = .slice (some ⟨g, 0, none⟩) l.length cap ∧ base ≤ g ∧ Rr w g e cap cs ∧ l.length ≤ cap ∧ cap ≤ maxLen ∧ cs.take (l.length * 2) = wv l := by
  rcases h.2 with ⟨rfl, h0⟩ | ⟨g, cap, cur, rfl, hb, hg, hn, hm, hs, ht⟩
  · exact .inl ⟨rfl, List.eq_nil_of_length_eq_zero h0⟩
  · exact .inr ⟨g, cap, cur.toList, rfl, hb, ⟨by simpa using hg, by simpa using hs⟩, hn, hm, ht⟩
theorem Ow.of {w : World} {base g cap : Nat} {e : TypeId} {cs : List Value} {l : List Wt} (R : Rr w g e cap cs) (hb : base ≤ g) (hn : l.length ≤ cap) (hm : cap ≤ maxLen) (ht : cs.take (l.length * 2) = wv l) (n : Nat) (hl : n = l.length) : Ow w base e (.slice (some ⟨g, 0, none⟩) n cap) l := by
  subst hl
  exact ⟨wv_len l, .inr ⟨g, cap, cs.toArray, rfl, hb, R.h, hn, hm, by simpa using R.n, by simpa using ht⟩⟩
/-- a list of items in memory. -/
structure WtAt (w : World) (a : Option Addr) (b off cap : Nat) (l : List Wt) : Prop where
  ha : 0 < l.length → a = some ⟨b, off, none⟩
  hn : a = none → cap = 0
  le : l.length ≤ cap
  mx : cap ≤ maxLen
  c0 : ∀ i, i < l.length → w.cell? ⟨b, off + i * 2, none⟩ = some (.int .i64 (l.getD i wz).k)
  c1 : ∀ i, i < l.length → w.cell? ⟨b, off + i * 2 + 1, none⟩ = some (.int .i64 (l.getD i wz).n)
def WtIn (w : World) (v : Value) (l : List Wt) : Prop := ∃ a b off cap, v = .slice a l.length cap ∧ WtAt w a b off cap l
theorem WtAt.kept {w w' : World} {a : Option Addr} {b off cap : Nat} {l : List Wt} (h : WtAt w a b off cap l) (k : Kp w w') : WtAt w' a b off cap l :=
  ⟨h.ha, h.hn, h.le, h.mx, fun i hi => k.held (h.c0 i hi), fun i hi => k.held (h.c1 i hi)⟩
theorem WtIn.kept {w w' : World} {v : Value} {l : List Wt} (h : WtIn w v l) (k : Kp w w') : WtIn w' v l := by
  obtain ⟨a, b, off, cap, rfl, h⟩ := h
  exact ⟨a, b, off, cap, rfl, h.kept k⟩
theorem WtIn.nil (w : World) : WtIn w (.slice none 0 0) [] := ⟨none, 0, 0, 0, rfl, ⟨fun h => absurd h (by simp), fun _ => rfl, by simp, by unfold maxLen; omega, fun i h => absurd h (by simp), fun i h => absurd h (by simp)⟩⟩
theorem WtIn.lit1 (w : World) (p : Wt) (t : TypeId) (k : Nat) (hk : k = w.heap.size) : WtIn (w.alloc (.cells #[.int .i64 p.k, .int .i64 p.n] t)) (.slice (some ⟨k, 0, none⟩) 1 1) [p] := by
  subst hk
  refine ⟨_, w.heap.size, 0, 1, rfl, ⟨fun _ => rfl, fun h => (by cases h), by simp, by unfold maxLen; omega, fun i h => ?_, fun i h => ?_⟩⟩ <;>
  · obtain rfl : i = 0 := by simp at h; omega
    rw [World.cell?_alloc_at _ _ _ _ rfl]; rfl
theorem Ow.wt {w : World} {base : Nat} {e : TypeId} {v : Value} {l : List Wt} (h : Ow w base e v l) : WtIn w v l := by
  rcases h.2 with ⟨rfl, h0⟩ | ⟨g, cap, cur, rfl, _, hg, hn, hm, hcs, htake⟩
  · obtain rfl : l = [] := List.eq_nil_of_length_eq_zero h0
    exact WtIn.nil w
  · refine ⟨_, g, 0, cap, rfl, fun _ => rfl, fun h => (by cases h), hn, hm, fun i hi => ?_, fun i hi => ?_⟩
    · rw [Nat.zero_add, World.ownsRow.cellAt h (i * 2) (by omega)]; exact (wv_at l i hi).1
    · rw [Nat.zero_add, World.ownsRow.cellAt h (i * 2 + 1) (by omega)]; exact (wv_at l i hi).2
theorem WtAt.cells {w : World} {b off cap : Nat} {l : List Wt} (h : WtAt w (some ⟨b, off, none⟩) b off cap l) (j : Nat) (u : Value) (hj : (wv l)[j]? = some u) : w.cell? ⟨b, off + j, none⟩ = some u := by
  have hj2 : j < l.length * 2 := by
    have := (List.getElem?_eq_some_iff.1 hj).1
    rwa [wv_len] at this
  have hd : j = j / 2 * 2 ∨ j = j / 2 * 2 + 1 := by omega
  have hq := wv_at l (j / 2) (by omega)
  rcases hd with hd | hd
  · rw [hd, hq.1] at hj
    rw [hd, ← hj]
    exact h.c0 (j / 2) (by omega)
  · rw [hd, hq.2] at hj
    rw [hd, ← hj]
    exact h.c1 (j / 2) (by omega)
def wtZ : Value := .agg #[.int .i64 0, .int .i64 0]
/-- the types of items. -/
structure Elw (t e : TypeId) : Prop where
  u : Try.prog.underlying t = some (.slice e)
  i : (Try.prog.info? e).map (fun i => (i.zero, i.size, i.bytes)) = some (some wtZ, 2, 16)
theorem elwQ : Elw 47 53 := ⟨by kernel_rfl, by kernel_rfl⟩
/-- items appended to a row of the call's own. -/
theorem wpList_append_wt {w : World} {ops : Array Oper} {rest : List Oper} {o : Oper} {a : Act} {Q : Exit → Act → World → Prop} (hgd : o.guard = none) (s x : Operand) (t : TypeId)
    (ho : o.op = .call { callee := .builtin .append, args := #[s, x], argTypes := #[t, t] })
    (base : Nat) (e : TypeId) (he : Elw t e) (v : Value) (l : List Wt) (hs : a.eval s = v) (hown : Ow w base e v l) (vx : Value) (m : List Wt) (hx : a.eval x = vx) (hm : WtIn w vx m)
    (hlen : l.length + m.length ≤ 1099511627776) (hbase : base ≤ w.heap.size)
    (h : ∀ v' w', Ow w' base e v' (l ++ m) → w.grownBy w' v.ownBlock → (v'.ownBlock = v.ownBlock ∨ v'.ownBlock = some w.heap.size) → wpList Try.prog ops Q rest (a.put o.dst v') w') : wpList Try.prog ops Q (o :: rest) a w := by
  obtain ⟨i0, hi, hz0, hz1, hz2⟩ := info_parts he.i
  obtain ⟨ao, b, off, cap, rfl, hA⟩ := hm
  have hK : ∀ v' w', w'.ownsRow base e 2 v' (l.length + m.length) (wv l ++ wv m) → Ow w' base e v' (l ++ m) := fun v' w' hh => by
    unfold Ow
    rw [List.length_append, wv_app]
    exact hh
  cases ao with
  | some p =>
    obtain ⟨pb, po, pe⟩ := p
    refine wpList_append_own_at w hgd s x t ho base e i0 wtZ 2 16 he.u hi hz0 hz1 hz2 rfl (by decide) v l.length (wv l) hs hown ⟨pb, po, pe⟩ m.length cap (wv m) hx (wv_len m) ?_ (wv_one m) (by unfold maxLen; omega) (by omega) hbase (fun v' w' h1 h2 _ h3 => h v' w' (hK _ _ h1) h2 h3)
    intro j u hj
    have hj2 : j < m.length * 2 := by
      have := (List.getElem?_eq_some_iff.1 hj).1
      rwa [wv_len] at this
    have hp := hA.ha (by omega)
    cases hp
    rw [Addr.add_lit]
    exact hA.cells j u hj
  | none =>
    obtain rfl := hA.hn rfl
    obtain rfl : m = [] := List.eq_nil_of_length_eq_zero (by have := hA.le; omega)
    refine wpList_append_own_none hgd s x t ho base e i0 2 he.u hi v l.length (wv l) hs hown hx (h v w (by rw [List.append_nil]; exact hown) (World.grownBy.refl _ _) (.inl rfl))
theorem grown_sp {w w' : World} {r : Option Nat} (g : w.grownBy w' r) : Sp r.toList w w' := by
  obtain ⟨g1, g2, g3, g4, g5⟩ := g
  exact ⟨g1, g2, g3, g4, fun k hk hn => g5 k hk (fun e => hn (by rw [← e]; simp))⟩

/-! ### clear -/
theorem run_clear2 {P : Program} (w : World) (t e ty : TypeId) (ht : P.underlying t = some (.slice e)) (hv : ∀ w, (zeroValue e).run P w = .ok wtZ w) (b o c : Nat)
    (hc : ∀ j, j < 2 → (w.cell? ⟨b, o + j, none⟩).isSome = true) (hf : ∀ j, j < 2 → w.frozen? ⟨b, o + j, none⟩ = false) :
    (Builtin.clear_ #[t] ty #[.slice (some ⟨b, o, none⟩) 1 c]).run P w = .ok (.tuple #[]) (w.setCells b o (wv [wz])) := by
  have hzc : (Builtin.zeroCells wtZ.cells 1).toList = wv [wz] := by simp [Builtin.zeroCells, wtZ, Value.cells, wv, wz, List.range, List.range.loop]
  have hst := run_storeCells_cells (P := P) b o (wv [wz]) 0 w (by simpa [wv_len] using hc) (by simpa [wv_len] using hf) (wv_one _)
  simp only [Nat.add_zero] at hst
  simp [Builtin.clear_, run_underlying ht, hv, hzc, hst]
theorem elw_size {t e : TypeId} (h : Elw t e) : ∀ w, (Go.sizeOf e).run Try.prog w = .ok 2 w := fun w => by
  obtain ⟨i0, hi, hz0, hz1, hz2⟩ := info_parts h.i
  simp [sizeOf, typeInfo, hi, hz1]
theorem elw_zero {t e : TypeId} (h : Elw t e) : ∀ w, (zeroValue e).run Try.prog w = .ok wtZ w := fun w => by
  obtain ⟨i0, hi, hz0, hz1, hz2⟩ := info_parts h.i
  simp [zeroValue, typeInfo, hi, hz0]
theorem elw_map {t e : TypeId} (h : Elw t e) : (Try.prog.info? e).map (·.size) = some 2 := by
  obtain ⟨i0, hi, hz0, hz1, hz2⟩ := info_parts h.i
  rw [hi]; simp [hz1]

end Go.Proofs.Ytcmomebjkbhboaa
