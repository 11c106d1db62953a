/-
  Rows of items of the call's own (Oi), lists of items in memory (ItIn), an append of items, a copy and a clear of elements of three cells. Conditions: that the cells hold the items.
-/
import Derived.Test.YtdfdoinhkjoalaaQuPlain
import Derived.Laws.IdiomCopy
import Derived.Lib.SliceRun
namespace Go.Proofs.Ytdfdoinhkjoalaa
open Go.RowKit Plain
set_option linter.unusedVariables false

/-- a row of items of the call's own. -/
def Oi (w : World) (base : Nat) (e : TypeId) (v : Value) (l : List It) : Prop := w.ownsRow base e 3 v l.length (iv l)
theorem Oi.kept {w w' : World} {base : Nat} {e : TypeId} {v : Value} {l : List It} (h : Oi w base e v l) (k : Kp w w') : Oi w' base e v l := (k.sp []).own h (fun _ _ h => by cases h)
theorem Oi.sp {w w' : World} {base : Nat} {e : TypeId} {v : Value} {l : List It} {T : List Nat} (h : Oi w base e v l) (k : Sp T w w') (hT : ∀ g, v.ownBlock = some g → g ∉ T) : Oi w' base e v l := k.own h hT
theorem Oi.nil (w : World) (base : Nat) (e : TypeId) : Oi w base e (.slice none 0 0) [] := ⟨rfl, .inl ⟨rfl, rfl⟩⟩
theorem Oi.lt {w : World} {base : Nat} {e : TypeId} {v : Value} {l : List It} (h : Oi w base e v l) : ∀ g, v.ownBlock = some g → base ≤ g ∧ g < w.heap.size := fun g hg => World.ownsRow.lt h g hg
theorem Oi.row {w : World} {base : Nat} {e : TypeId} {v : Value} {l : List It} (h : Oi w base e v l) : (v = .slice none 0 0 ∧ l = []) ∨ ∃ g cap cs, v = .slice (some ⟨g, 0, none⟩) l.length cap ∧ base ≤ g ∧ Rr w g e cap cs ∧ l.length ≤ cap ∧ cap ≤ maxLen ∧ cs.take (l.length * 3) = iv l := by
  rcases h.2 with ⟨rfl, h0⟩ | ⟨g, cap, cur, rfl, hb, hg, hn, hm, hs, ht⟩
  · exact .inl ⟨rfl, List.eq_nil_of_length_eq_zero h0⟩
  · exact .inr ⟨g, cap, cur.toList, rfl, hb, ⟨by simpa using hg, by simpa using hs⟩, hn, hm, ht⟩
theorem Oi.of {w : World} {base g cap : Nat} {e : TypeId} {cs : List Value} {l : List It} (R : Rr w g e cap cs) (hb : base ≤ g) (hn : l.length ≤ cap) (hm : cap ≤ maxLen) (ht : cs.take (l.length * 3) = iv l) (n : Nat) (hl : n = l.length) : Oi w base e (.slice (some ⟨g, 0, none⟩) n cap) l := by
  subst hl
  exact ⟨iv_len l, .inr ⟨g, cap, cs.toArray, rfl, hb, R.h, hn, hm, by simpa using R.n, by simpa using ht⟩⟩
/-- a list of items in memory. -/
structure ItAt (w : World) (a : Option Addr) (b off cap : Nat) (l : List It) : Prop where
  ha : 0 < l.length → a = some ⟨b, off, none⟩
  hn : a = none → cap = 0
  le : l.length ≤ cap
  mx : cap ≤ maxLen
  c0 : ∀ i, i < l.length → w.cell? ⟨b, off + i * 3, none⟩ = some (.int .i64 (l.getD i iz).b)
  c1 : ∀ i, i < l.length → w.cell? ⟨b, off + i * 3 + 1, none⟩ = some (.string (l.getD i iz).d)
  c2 : ∀ i, i < l.length → w.cell? ⟨b, off + i * 3 + 2, none⟩ = some (.int .i64 (l.getD i iz).g)
def ItIn (w : World) (v : Value) (l : List It) : Prop := ∃ a b off cap, v = .slice a l.length cap ∧ ItAt w a b off cap l
theorem ItAt.kept {w w' : World} {a : Option Addr} {b off cap : Nat} {l : List It} (h : ItAt w a b off cap l) (k : Kp w w') : ItAt w' a b off cap l :=
  ⟨h.ha, h.hn, h.le, h.mx, fun i hi => k.held (h.c0 i hi), fun i hi => k.held (h.c1 i hi), fun i hi => k.held (h.c2 i hi)⟩
theorem ItIn.kept {w w' : World} {v : Value} {l : List It} (h : ItIn w v l) (k : Kp w w') : ItIn w' v l := by
  obtain ⟨a, b, off, cap, rfl, h⟩ := h
  exact ⟨a, b, off, cap, rfl, h.kept k⟩
theorem ItIn.nil (w : World) : ItIn w (.slice none 0 0) [] := ⟨none, 0, 0, 0, rfl, ⟨fun h => absurd h (by simp), fun _ => rfl, by simp, by unfold maxLen; omega, fun i h => absurd h (by simp), fun i h => absurd h (by simp), fun i h => absurd h (by simp)⟩⟩
theorem ItIn.lit1 (w : World) (p : It) (t : TypeId) (k : Nat) (hk : k = w.heap.size) : ItIn (w.alloc (.cells #[.int .i64 p.b, .string p.d, .int .i64 p.g] t)) (.slice (some ⟨k, 0, none⟩) 1 1) [p] := by
  subst hk
  refine ⟨_, w.heap.size, 0, 1, rfl, ⟨fun _ => rfl, fun h => (by cases h), by simp, by unfold maxLen; omega, fun i h => ?_, fun i h => ?_, fun i h => ?_⟩⟩ <;>
  · obtain rfl : i = 0 := by simp at h; omega
    rw [World.cell?_alloc_at _ _ _ _ rfl]; rfl
theorem Oi.it {w : World} {base : Nat} {e : TypeId} {v : Value} {l : List It} (h : Oi w base e v l) : ItIn w v l := by
  rcases h.2 with ⟨rfl, h0⟩ | ⟨g, cap, cur, rfl, _, hg, hn, hm, hcs, htake⟩
  · obtain rfl : l = [] := List.eq_nil_of_length_eq_zero h0
    exact ItIn.nil w
  · refine ⟨_, g, 0, cap, rfl, fun _ => rfl, fun h => (by cases h), hn, hm, fun i hi => ?_, fun i hi => ?_, fun i hi => ?_⟩
    · rw [Nat.zero_add, World.ownsRow.cellAt h (i * 3) (by omega)]; exact (iv_at l i hi).1
    · rw [Nat.zero_add, World.ownsRow.cellAt h (i * 3 + 1) (by omega)]; exact (iv_at l i hi).2.1
    · rw [Nat.zero_add, World.ownsRow.cellAt h (i * 3 + 2) (by omega)]; exact (iv_at l i hi).2.2
theorem ItAt.cells {w : World} {b off cap : Nat} {l : List It} (h : ItAt w (some ⟨b, off, none⟩) b off cap l) (j : Nat) (u : Value) (hj : (iv l)[j]? = some u) : w.cell? ⟨b, off + j, none⟩ = some u := by
  have hj2 : j < l.length * 3 := by
    have := (List.getElem?_eq_some_iff.1 hj).1
    rwa [iv_len] at this
  have hd : j = j / 3 * 3 ∨ j = j / 3 * 3 + 1 ∨ j = j / 3 * 3 + 2 := by omega
  have hq := iv_at l (j / 3) (by omega)
  rcases hd with hd | hd | hd
  · rw [hd, hq.1] at hj
    rw [hd, ← hj]
    exact h.c0 (j / 3) (by omega)
  · rw [hd, hq.2.1] at hj
    rw [hd, ← hj]
    exact h.c1 (j / 3) (by omega)
  · rw [hd, hq.2.2] at hj
    rw [hd, ← hj]
    exact h.c2 (j / 3) (by omega)
def itZ : Value := .agg #[.int .i64 0, .string ⟨#[]⟩, .int .i64 0]
/-- the types of items. -/
structure Ely (t e : TypeId) : Prop where
  u : Try.prog.underlying t = some (.slice e)
  i : (Try.prog.info? e).map (fun i => (i.zero, i.size, i.bytes)) = some (some itZ, 3, 32)
theorem elyQ : Ely 60 31 := ⟨by kernel_rfl, by kernel_rfl⟩
theorem elyR : Ely 44 34 := ⟨by kernel_rfl, by kernel_rfl⟩
/-- items appended to a row of the call's own. -/
theorem wpList_append_it {w : World} {ops : Array Oper} {rest : List Oper} {o : Oper} {a : Act} {Q : Exit → Act → World → Prop} (hgd : o.guard = none) (s x : Operand) (t : TypeId)
    (ho : o.op = .call { callee := .builtin .append, args := #[s, x], argTypes := #[t, t] })
    (base : Nat) (e : TypeId) (he : Ely t e) (v : Value) (l : List It) (hs : a.eval s = v) (hown : Oi w base e v l) (vx : Value) (m : List It) (hx : a.eval x = vx) (hm : ItIn w vx m)
    (hlen : l.length + m.length ≤ 1099511627776) (hbase : base ≤ w.heap.size)
    (h : ∀ v' w', Oi w' base e v' (l ++ m) → w.grownBy w' v.ownBlock → (v'.ownBlock = v.ownBlock ∨ v'.ownBlock = some w.heap.size) → wpList Try.prog ops Q rest (a.put o.dst v') w') : wpList Try.prog ops Q (o :: rest) a w := by
  obtain ⟨i0, hi, hz0, hz1, hz2⟩ := info_parts he.i
  obtain ⟨ao, b, off, cap, rfl, hA⟩ := hm
  have hK : ∀ v' w', w'.ownsRow base e 3 v' (l.length + m.length) (iv l ++ iv m) → Oi w' base e v' (l ++ m) := fun v' w' hh => by
    unfold Oi
    rw [List.length_append, iv_app]
    exact hh
  cases ao with
  | some p =>
    obtain ⟨pb, po, pe⟩ := p
    refine wpList_append_own_at w hgd s x t ho base e i0 itZ 3 32 he.u hi hz0 hz1 hz2 rfl (by decide) v l.length (iv l) hs hown ⟨pb, po, pe⟩ m.length cap (iv m) hx (iv_len m) ?_ (iv_one m) (by unfold maxLen; omega) (by omega) hbase (fun v' w' h1 h2 _ h3 => h v' w' (hK _ _ h1) h2 h3)
    intro j u hj
    have hj2 : j < m.length * 3 := by
      have := (List.getElem?_eq_some_iff.1 hj).1
      rwa [iv_len] at this
    have hp := hA.ha (by omega)
    cases hp
    rw [Addr.add_lit]
    exact hA.cells j u hj
  | none =>
    obtain rfl := hA.hn rfl
    obtain rfl : m = [] := List.eq_nil_of_length_eq_zero (by have := hA.le; omega)
    refine wpList_append_own_none hgd s x t ho base e i0 3 he.u hi v l.length (iv l) hs hown hx (h v w (by rw [List.append_nil]; exact hown) (World.grownBy.refl _ _) (.inl rfl))
theorem grown_sp {w w' : World} {r : Option Nat} (g : w.grownBy w' r) : Sp r.toList w w' := by
  obtain ⟨g1, g2, g3, g4, g5⟩ := g
  exact ⟨g1, g2, g3, g4, fun k hk hn => g5 k hk (fun e => hn (by rw [← e]; simp))⟩

/-! ### copy and clear -/
theorem run_copy3 {P : Program} (w : World) (dT sT ty elem : TypeId) (b o dLen dCap : Nat) (a : Addr) (sLen sCap : Nat) (cs : List Value)
    (hu : P.underlying dT = some (.slice elem)) (hs : (P.info? elem).map (·.size) = some 3) (hn : cs.length = Nat.min sLen dLen * 3)
    (hsrc : ∀ j v, cs[j]? = some v → w.cell? (a.add j) = some v) (hc : ∀ j, j < cs.length → (w.cell? ⟨b, o + j, none⟩).isSome = true) (hf : ∀ j, j < cs.length → w.frozen? ⟨b, o + j, none⟩ = false) (h1 : ∀ v ∈ cs, v.oneCell' = true) :
    (Builtin.copy_ #[dT, sT] ty #[.slice (some ⟨b, o, none⟩) dLen dCap, .slice (some a) sLen sCap]).run P w = .ok (goInt (Nat.min sLen dLen)) (w.setCells b o cs) := by
  have hl := run_loadCells_list (P := P) w a cs hsrc
  have hst := run_storeCells_cells (P := P) b o cs 0 w (by simpa using hc) (by simpa using hf) h1
  cases hq : P.info? elem with
  | none => simp [hq] at hs
  | some i =>
    have hi : i.size = 3 := by simpa [hq] using hs
    rw [hn] at hl
    simp [Builtin.copy_, run_underlying hu, Builtin.lenOf, Builtin.firstCells, sizeOf, typeInfo, hq, hi, hl, hst]
theorem wpList_copy3 {P : Program} (w : World) {ops : Array Oper} {rest : List Oper} {o : Oper} {a : Act} {Q : Exit → Act → World → Prop} (hgd : o.guard = none) (d s : Operand) (t t' : TypeId)
    (ho : o.op = .call { callee := .builtin .copy, args := #[d, s], argTypes := #[t, t'] }) (v u : Value) (hd : a.eval d = v) (hs : a.eval s = u) {v' : Value} {w' : World}
    (hr : (Builtin.copy_ #[t, t'] o.type #[v, u]).run P w = .ok v' w') (h : wpList P ops Q rest (a.put o.dst v') w') : wpList P ops Q (o :: rest) a w :=
  wpList_plain hgd fun _ hK => by
    unfold Oper.wp execOp
    simp only [ho, resolve, invoke, builtin, Sem.run_bind, Sem.run_pure, Result.andThen_ok, List.map_toArray, List.map_cons, List.map_nil, hd, hs, hr]
    exact hK _ _ h
theorem step_copy3 {P : Program} {ops : Array Oper} {o : Oper} {a : Act} {w : World} {K : Act → World → Prop} {Q : Exit → Act → World → Prop} {E : Prop}
    (hg : o.guard = none) (d x : Operand) (dT sT : TypeId) (hop : o.op = Op.call { callee := Callee.builtin Builtin.copy, args := #[d, x], argTypes := #[dT, sT] })
    (v u : Value) (hd : a.eval d = v) (hx : a.eval x = u) {v' : Value} {w' : World} (hr : (Builtin.copy_ #[dT, sT] o.type #[v, u]).run P w = .ok v' w') (hK : K (a.put o.dst v') w') :
    if Region.wanted o (yielded ops a.tmps) = true then Oper.wp P o a w K Q else E := by
  have hw : Region.wanted o (yielded ops a.tmps) = true := by simp [Region.wanted, hg]
  rw [if_pos hw]
  unfold Oper.wp
  simp [execOp, hop, resolve, invoke, builtin, hd, hx, hr, Result.andThen]
  exact hK
theorem run_clear3 {P : Program} (w : World) (t e ty : TypeId) (ht : P.underlying t = some (.slice e)) (hv : ∀ w, (zeroValue e).run P w = .ok itZ w) (b o c : Nat)
    (hc : ∀ j, j < 3 → (w.cell? ⟨b, o + j, none⟩).isSome = true) (hf : ∀ j, j < 3 → w.frozen? ⟨b, o + j, none⟩ = false) :
    (Builtin.clear_ #[t] ty #[.slice (some ⟨b, o, none⟩) 1 c]).run P w = .ok (.tuple #[]) (w.setCells b o (iv [iz])) := by
  have hzc : (Builtin.zeroCells itZ.cells 1).toList = iv [iz] := by simp [Builtin.zeroCells, itZ, Value.cells, iv, iz, noS, List.range, List.range.loop]
  have hst := run_storeCells_cells (P := P) b o (iv [iz]) 0 w (by simpa [iv_len] using hc) (by simpa [iv_len] using hf) (iv_one _)
  simp only [Nat.add_zero] at hst
  simp [Builtin.clear_, run_underlying ht, hv, hzc, hst]
theorem ely_size {t e : TypeId} (h : Ely t e) : ∀ w, (Go.sizeOf e).run Try.prog w = .ok 3 w := fun w => by
  obtain ⟨i0, hi, hz0, hz1, hz2⟩ := info_parts h.i
  simp [sizeOf, typeInfo, hi, hz1]
theorem ely_zero {t e : TypeId} (h : Ely t e) : ∀ w, (zeroValue e).run Try.prog w = .ok itZ w := fun w => by
  obtain ⟨i0, hi, hz0, hz1, hz2⟩ := info_parts h.i
  simp [zeroValue, typeInfo, hi, hz0]
theorem ely_map {t e : TypeId} (h : Ely t e) : (Try.prog.info? e).map (·.size) = some 3 := by
  obtain ⟨i0, hi, hz0, hz1, hz2⟩ := info_parts h.i
  rw [hi]; simp [hz1]

end Go.Proofs.Ytdfdoinhkjoalaa
