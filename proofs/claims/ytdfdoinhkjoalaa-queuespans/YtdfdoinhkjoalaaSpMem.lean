/-
  Lists of spans in memory (SpIn), rows of spans of the call's own (Own), and contracts of the calls on one span: Good, Len, less, the document's One. Conditions: that the list's cells hold the spans.
-/
import Derived.Test.YtdfdoinhkjoalaaSpPlain2
import Derived.Deep.OwnRows
import Derived.Deep.Quiet
import Derived.Maps.AppendAt
import Derived.Laws.AppendOwnNone
namespace Go.Proofs.Ytdfdoinhkjoalaa
open Go.RowKit Plain
set_option linter.unusedVariables false

/-! ### lists of spans in memory -/
def pv : List (Int × Int) → List Value
  | [] => []
  | p :: l => .int .i64 p.1 :: .int .i64 p.2 :: pv l
theorem pv_len : ∀ l, (pv l).length = l.length * 2
  | [] => rfl
  | p :: l => by simp only [pv, List.length_cons, pv_len l]; omega
theorem pv_app : ∀ l m, pv (l ++ m) = pv l ++ pv m
  | [], m => rfl
  | p :: l, m => by simp only [pv, List.cons_append, pv_app l m]
theorem pv_at : ∀ (l : List (Int × Int)) (i : Nat), i < l.length → (pv l)[i * 2]? = some (.int .i64 (l.getD i (0, 0)).1) ∧ (pv l)[i * 2 + 1]? = some (.int .i64 (l.getD i (0, 0)).2)
  | [], i, h => by simp at h
  | p :: l, 0, h => by simp [pv]
  | p :: l, i + 1, h => by
    have := pv_at l i (by simpa using h)
    rw [show (i + 1) * 2 = i * 2 + 1 + 1 by omega]
    simpa [pv] using this
theorem pv_one : ∀ (l : List (Int × Int)), ∀ u ∈ pv l, u.oneCell' = true
  | [], u, h => by simp [pv] at h
  | p :: l, u, h => by
    simp only [pv, List.mem_cons] at h
    rcases h with rfl | rfl | h
    · rfl
    · rfl
    · exact pv_one l u h
structure SpAt (w : World) (a : Option Addr) (b off cap : Nat) (l : List (Int × Int)) : Prop where
  ha : 0 < l.length → a = some ⟨b, off, none⟩
  hn : a = none → cap = 0
  le : l.length ≤ cap
  mx : cap ≤ maxLen
  c0 : ∀ i, i < l.length → w.cell? ⟨b, off + i * 2, none⟩ = some (.int .i64 (l.getD i (0, 0)).1)
  c1 : ∀ i, i < l.length → w.cell? ⟨b, off + i * 2 + 1, none⟩ = some (.int .i64 (l.getD i (0, 0)).2)
def SpIn (w : World) (v : Value) (l : List (Int × Int)) : Prop := ∃ a b off cap, v = .slice a l.length cap ∧ SpAt w a b off cap l
theorem SpAt.kept {w w' : World} {a : Option Addr} {b off cap : Nat} {l : List (Int × Int)} (h : SpAt w a b off cap l) (k : Kp w w') : SpAt w' a b off cap l :=
  ⟨h.ha, h.hn, h.le, h.mx, fun i hi => k.held (h.c0 i hi), fun i hi => k.held (h.c1 i hi)⟩
theorem SpIn.kept {w w' : World} {v : Value} {l : List (Int × Int)} (h : SpIn w v l) (k : Kp w w') : SpIn w' v l := by
  obtain ⟨a, b, off, cap, rfl, h⟩ := h
  exact ⟨a, b, off, cap, rfl, h.kept k⟩
theorem SpIn.nil (w : World) : SpIn w (.slice none 0 0) [] := ⟨none, 0, 0, 0, rfl, ⟨fun h => absurd h (by simp), fun _ => rfl, by simp, by unfold maxLen; omega, fun i h => absurd h (by simp), fun i h => absurd h (by simp)⟩⟩
theorem SpIn.lit1 (w : World) (p : (Int × Int)) (t : TypeId) : SpIn (w.alloc (.cells #[.int .i64 p.1, .int .i64 p.2] t)) (.slice (some ⟨w.heap.size, 0, none⟩) 1 1) [p] :=
  ⟨_, w.heap.size, 0, 1, rfl, ⟨fun _ => rfl, fun h => (by cases h), by simp, by unfold maxLen; omega, fun i h => (by
    obtain rfl : i = 0 := by simp at h; omega
    rw [World.cell?_alloc_at _ _ _ _ rfl]; rfl), fun i h => (by
    obtain rfl : i = 0 := by simp at h; omega
    rw [World.cell?_alloc_at _ _ _ _ rfl]; rfl)⟩⟩
theorem SpIn.lit2 (w : World) (p : (Int × Int)) (t : TypeId) (k : Nat) (hk : k = w.heap.size) : SpIn (w.alloc (.cells #[.int .i64 p.1, .int .i64 p.2] t)) (.slice (some ⟨k, 0, none⟩) 1 1) [p] := by rw [hk]; exact SpIn.lit1 w p t
theorem Kp.own {w w' : World} (k : Kp w w') {base : Nat} {e : TypeId} {size : Nat} {v : Value} {n : Nat} {xs : List Value} (h : w.ownsRow base e size v n xs) : w'.ownsRow base e size v n xs := by
  rcases h.2 with ⟨h', h0⟩ | ⟨g, cap, cur, h', hb, hg, hr⟩
  · exact ⟨h.1, .inl ⟨h', h0⟩⟩
  · exact ⟨h.1, .inr ⟨g, cap, cur, h', hb, (k.block g (Array.getElem?_eq_some_iff.1 hg).1).trans hg, hr⟩⟩
theorem own_lt {w : World} {base : Nat} {e : TypeId} {size : Nat} {v : Value} {n : Nat} {xs : List Value} (h : w.ownsRow base e size v n xs) : ∀ k, v.ownBlock = some k → base ≤ k := fun k hk => (h.lt k hk).1
/-- a row of spans of the call's own. -/
def Own (w : World) (base : Nat) (e : TypeId) (v : Value) (l : List (Int × Int)) : Prop := w.ownsRow base e 2 v l.length (pv l)
theorem Own.sp {w : World} {base : Nat} {e : TypeId} {v : Value} {l : List (Int × Int)} (h : Own w base e v l) : SpIn w v l := by
  rcases h.2 with ⟨rfl, h0⟩ | ⟨g, cap, cur, rfl, _, hg, hn, hm, hcs, htake⟩
  · obtain rfl : l = [] := List.eq_nil_of_length_eq_zero h0
    exact SpIn.nil w
  · refine ⟨_, g, 0, cap, rfl, fun _ => rfl, fun h => (by cases h), hn, hm, fun i hi => ?_, fun i hi => ?_⟩
    · rw [Nat.zero_add, World.ownsRow.cellAt h (i * 2) (by omega)]; exact (pv_at l i hi).1
    · rw [Nat.zero_add, World.ownsRow.cellAt h (i * 2 + 1) (by omega)]; exact (pv_at l i hi).2
theorem Own.kept {w w' : World} {base : Nat} {e : TypeId} {v : Value} {l : List (Int × Int)} (h : Own w base e v l) (k : Kp w w') : Own w' base e v l := k.own h
theorem Own.alloc {w : World} {base : Nat} {e : TypeId} {v : Value} {l : List (Int × Int)} (h : Own w base e v l) (o : Obj) : Own (w.alloc o) base e v l := ((Kp.refl w).alloc o).own h
/-- the types of spans. -/
structure Elt (t e : TypeId) : Prop where
  u : Try.prog.underlying t = some (.slice e)
  i : (Try.prog.info? e).map (fun i => (i.zero, i.size, i.bytes)) = some (some (.agg #[.int .i64 0, .int .i64 0]), 2, 16)
theorem elt26 : Elt 51 76 := ⟨by kernel_rfl, by kernel_rfl⟩
theorem elt25 : Elt 50 76 := ⟨by kernel_rfl, by kernel_rfl⟩
/-- spans appended to a row of the call's own. -/
theorem wpList_append_sp {w : World} {ops : Array Oper} {rest : List Oper} {o : Oper} {a : Act} {Q : Exit → Act → World → Prop} (hgd : o.guard = none) (s x : Operand) (t : TypeId)
    (ho : o.op = .call { callee := .builtin .append, args := #[s, x], argTypes := #[t, t] })
    (base : Nat) (e : TypeId) (he : Elt t e) (v : Value) (l : List (Int × Int)) (hs : a.eval s = v) (hown : Own w base e v l) (vx : Value) (m : List (Int × Int)) (hx : a.eval x = vx) (hm : SpIn w vx m)
    (hlen : l.length + m.length ≤ 1099511627776) (hbase : base ≤ w.heap.size)
    (h : ∀ v' w', Own w' base e v' (l ++ m) → w.grownBy w' v.ownBlock → (v'.ownBlock = v.ownBlock ∨ v'.ownBlock = some w.heap.size) → wpList Try.prog ops Q rest (a.put o.dst v') w') : wpList Try.prog ops Q (o :: rest) a w := by
  obtain ⟨i0, hi, hz0, hz1, hz2⟩ := info_parts he.i
  obtain ⟨ao, b, off, cap, rfl, hA⟩ := hm
  have hK : ∀ v' w', w'.ownsRow base e 2 v' (l.length + m.length) (pv l ++ pv m) → Own w' base e v' (l ++ m) := fun v' w' hh => by
    unfold Own
    rw [List.length_append, pv_app]
    exact hh
  cases ao with
  | some p =>
    obtain ⟨pb, po, pe⟩ := p
    refine wpList_append_own_at w hgd s x t ho base e i0 (.agg #[.int .i64 0, .int .i64 0]) 2 16 he.u hi hz0 hz1 hz2 rfl (by decide) v l.length (pv l) hs hown ⟨pb, po, pe⟩ m.length cap (pv m) hx (pv_len m) ?_ (pv_one m) (by unfold maxLen; omega) (by omega) hbase (fun v' w' h1 h2 _ h3 => h v' w' (hK _ _ h1) h2 h3)
    intro j u hj
    have hj2 : j < m.length * 2 := by
      have := (List.getElem?_eq_some_iff.1 hj).1
      rwa [pv_len] at this
    have hp := hA.ha (by omega)
    cases hp
    rw [Addr.add_lit]
    have hd : j = j / 2 * 2 ∨ j = j / 2 * 2 + 1 := by omega
    have hq := pv_at m (j / 2) (by omega)
    rcases hd with hd | hd
    · rw [hd, hq.1] at hj
      rw [hd, ← hj]
      exact hA.c0 (j / 2) (by omega)
    · rw [hd, hq.2] at hj
      rw [hd, ← hj]
      exact hA.c1 (j / 2) (by omega)
  | none =>
    obtain rfl := hA.hn rfl
    obtain rfl : m = [] := List.eq_nil_of_length_eq_zero (by have := hA.le; omega)
    refine wpList_append_own_none hgd s x t ho base e i0 2 he.u hi v l.length (pv l) hs hown hx (h v w (by rw [List.append_nil]; exact hown) (World.grownBy.refl _ _) (.inl rfl))
theorem Kp.same_size {w w' : World} (k : Kp w w') : w.heap.size ≤ w'.heap.size := k.size

/-! ### one span -/
def spV (p : (Int × Int)) : Value := .agg #[.int .i64 p.1, .int .i64 p.2]
set_option maxRecDepth 100000 in
theorem good1_any (p : (Int × Int)) (w : World) : Calls Try.prog 34 #[spV p] w fun e w' => e = .returned (.bool (gd p)) ∧ Kp w w' := by
  obtain ⟨x, y⟩ := p
  unfold spV
  by_cases h1 : 0 ≤ x
  · by_cases h2 : x < y
    · by_cases h3 : y ≤ 1099511627776
      · rw [show gd (x, y) = true from (gd_iff _).2 ⟨h1, h2, h3⟩]
        go_enter Try.func34, Try.ntmps34
        go_wp2
        go_ret
        exact ⟨rfl, (Kp.refl w).alloc _⟩
      · rw [show gd (x, y) = false from by rw [Bool.eq_false_iff, ne_eq, gd_iff]; exact fun h => h3 h.2.2]
        go_enter Try.func34, Try.ntmps34
        go_wp2
        go_ret
        exact ⟨rfl, (Kp.refl w).alloc _⟩
    · rw [show gd (x, y) = false from by rw [Bool.eq_false_iff, ne_eq, gd_iff]; exact fun h => h2 h.2.1]
      go_enter Try.func34, Try.ntmps34
      go_wp2
      go_ret
      exact ⟨rfl, (Kp.refl w).alloc _⟩
  · rw [show gd (x, y) = false from by rw [Bool.eq_false_iff, ne_eq, gd_iff]; exact fun h => h1 h.1]
    go_enter Try.func34, Try.ntmps34
    go_wp2
    go_ret
    exact ⟨rfl, (Kp.refl w).alloc _⟩
def len1 (p : (Int × Int)) : Int := if gd p = true then p.2 - p.1 else 0
set_option maxRecDepth 100000 in
theorem len1_any (p : (Int × Int)) (w : World) : Calls Try.prog 35 #[spV p] w fun e w' => e = .returned (.int .i64 (len1 p)) ∧ Kp w w' := by
  have hG := good1_any p
  by_cases hg : gd p = true
  · rw [show len1 p = p.2 - p.1 from if_pos hg]
    rw [hg] at hG
    obtain ⟨g1, g2, g3⟩ := (gd_iff p).1 hg
    clear hg
    obtain ⟨x, y⟩ := p
    simp only [mA] at g1 g2 g3
    unfold spV at hG ⊢
    go_enter Try.func35, Try.ntmps35
    go_wp2_with fail
    refine (hG _).mono ?_; rintro e w1 ⟨rfl, k1⟩
    have c0 : w1.cell? ⟨w.heap.size, 0, none⟩ = some (.int .i64 x) := k1.held (by simp)
    have c1 : w1.cell? ⟨w.heap.size, 1, none⟩ = some (.int .i64 y) := k1.held (by simp)
    have K : Kp w w1 := ((Kp.refl w).alloc _).trans k1
    clear hG k1
    go_wp2
    go_ret
    exact ⟨rfl, K⟩
  · rw [show len1 p = 0 from if_neg hg]
    rw [Bool.not_eq_true] at hg
    rw [hg] at hG
    clear hg
    obtain ⟨x, y⟩ := p
    unfold spV at hG ⊢
    go_enter Try.func35, Try.ntmps35
    go_wp2_with fail
    refine (hG _).mono ?_; rintro e w1 ⟨rfl, k1⟩
    have K : Kp w w1 := ((Kp.refl w).alloc _).trans k1
    clear hG k1
    go_wp2
    go_ret
    exact ⟨rfl, K⟩
theorem imin {P : Program} (ts : Array TypeId) (t : TypeId) (x y : Int) (w : World) : (Builtin.min_ ts t #[.int .i64 x, .int .i64 y]).run P w = .ok (.int .i64 (min x y)) w := by
  rw [run_min_int2]
  congr 2
  split <;> omega
theorem imax {P : Program} (ts : Array TypeId) (t : TypeId) (x y : Int) (w : World) : (Builtin.max_ ts t #[.int .i64 x, .int .i64 y]).run P w = .ok (.int .i64 (max x y)) w := by
  rw [run_max_int2]
  congr 2
  split <;> omega
theorem load_four {P : Program} {w : World} {b : Nat} (p q r s : Value) (h0 : w.cell? ⟨b, 0, none⟩ = some p) (h1 : w.cell? ⟨b, 1, none⟩ = some q) (h2 : w.cell? ⟨b, 2, none⟩ = some r) (h3 : w.cell? ⟨b, 3, none⟩ = some s) (ty e : TypeId) (hu : P.underlying ty = some (.array 2 e)) (hi : (P.info? ty).map (·.size) = some 4) :
    (loadVar ty ⟨b, 0, none⟩).run P w = .ok (.agg #[p, q, r, s]) w := by
  have hl : (loadCells ⟨b, 0, none⟩ [p, q, r, s].length).run P w = .ok [p, q, r, s].toArray w :=
    run_loadCells_list (P := P) w ⟨b, 0, none⟩ [p, q, r, s] (fun j x hx => by
      have hadd : (⟨b, 0, none⟩ : Addr).add j = ⟨b, j, none⟩ := by unfold Addr.add; split <;> simp_all
      rw [hadd]
      match j, hx with
      | 0, hx => simp at hx; rw [h0, hx]
      | 1, hx => simp at hx; rw [h1, hx]
      | 2, hx => simp at hx; rw [h2, hx]
      | 3, hx => simp at hx; rw [h3, hx])
  cases hq : P.info? ty with
  | none => simp [hq] at hi
  | some i =>
    have hs : i.size = 4 := by simpa [hq] using hi
    have hagg : (isAgg ty).run P w = .ok true w := by
      unfold isAgg
      rw [Sem.run_bind, run_underlying hu w]
      rfl
    rw [show [p, q, r, s].length = 4 from rfl] at hl
    simp [loadVar, Sem.run_bind, hagg, sizeOf, typeInfo, hq, hs, hl]
def lsV (s t : (Int × Int)) : Value := .agg #[.int .i64 s.1, .int .i64 (min s.2 t.1), .int .i64 (max s.1 t.2), .int .i64 s.2]

end Go.Proofs.Ytdfdoinhkjoalaa
