/-
  Parts of a list of spans (slices of it), and contracts of spans' put and stretch upon a row of the call's own. Conditions: that the lists' cells hold the spans.
-/
import Derived.Test.YtdfdoinhkjoalaaSpReach
namespace Go.Proofs.Ytdfdoinhkjoalaa
open Go.RowKit Plain
set_option linter.unusedVariables false

theorem size26 (W : World) : (sizeOf (Try.prog.elem 51)).run Try.prog W = .ok 2 W := by
  obtain ⟨i0, hi, hz0, hz1, hz2⟩ := info_parts elt26.i
  have he : Try.prog.elem 51 = 76 := by kernel_rfl
  rw [he]
  simp [sizeOf, typeInfo, hi, hz1]
theorem und26 : Try.prog.underlying 51 = some (.slice (Try.prog.elem 51)) := by kernel_rfl
def cutA (a : Option Addr) (cap i : Nat) : Option Addr := if cap = i then a else a.map (·.add (i * 2))
theorem SpAt.part {w : World} {a : Option Addr} {b off cap : Nat} {l : List (Int × Int)} (h : SpAt w a b off cap l) (i j : Nat) (hij : i ≤ j) (hj : j ≤ l.length) : SpAt w (cutA a cap i) b (off + i * 2) (cap - i) ((l.take j).drop i) := by
  have hl : ((l.take j).drop i).length = j - i := by rw [List.length_drop, List.length_take]; omega
  have hat : ∀ k, k < j - i → ((l.take j).drop i).getD k (0, 0) = l.getD (i + k) (0, 0) := fun k hk => by
    rw [List.getD_eq_getElem?_getD, List.getElem?_drop, List.getElem?_take, if_pos (by omega), ← List.getD_eq_getElem?_getD]
  have hle := h.le
  refine ⟨fun h0 => ?_, fun hn => ?_, by omega, by have := h.mx; omega, fun k hk => ?_, fun k hk => ?_⟩
  · unfold cutA
    rw [if_neg (by omega), h.ha (by omega)]
    simp [Addr.add_lit]
  · unfold cutA at hn
    split at hn
    · omega
    · have := h.hn (by simpa using hn); omega
  · rw [hl] at hk
    rw [hat k hk, show off + i * 2 + k * 2 = off + (i + k) * 2 by omega]
    exact h.c0 (i + k) (by omega)
  · rw [hl] at hk
    rw [hat k hk, show off + i * 2 + k * 2 = off + (i + k) * 2 by omega]
    exact h.c1 (i + k) (by omega)
theorem run_part (a : Option Addr) (n cap i j : Nat) (hij : i ≤ j) (hj : j ≤ cap) (W : World) : (Instr.slice 51 (.slice a n cap) (some (.int .i64 (i : Int))) (some (.int .i64 (j : Int))) none).run Try.prog W = .ok (.slice (cutA a cap i) (j - i) (cap - i)) W := by
  rw [run_slice_lh W 51 a n cap und26 .i64 .i64 i j (by omega) (by omega) (by omega), size26]
  simp [sliced, cutA, Result.andThen]
theorem run_head (a : Option Addr) (n cap j : Nat) (hj : j ≤ cap) (W : World) : (Instr.slice 51 (.slice a n cap) none (some (.int .i64 (j : Int))) none).run Try.prog W = .ok (.slice (cutA a cap 0) j cap) W := by
  rw [run_slice_h W 51 a n cap und26 .i64 j (by omega) (by omega), size26]
  simp [sliced, cutA, Result.andThen]
theorem run_tail (a : Option Addr) (n cap i : Nat) (hi : i ≤ n) (hn : n ≤ cap) (W : World) : (Instr.slice 51 (.slice a n cap) (some (.int .i64 (i : Int))) none none).run Try.prog W = .ok (.slice (cutA a cap i) (n - i) (cap - i)) W := by
  rw [run_slice_l W 51 a n cap und26 .i64 i (by omega) (by omega), size26]
  simp [sliced, cutA, Result.andThen]
theorem SpIn.part {w : World} {a : Option Addr} {b off cap : Nat} {l : List (Int × Int)} (h : SpAt w a b off cap l) (i j : Nat) (hij : i ≤ j) (hj : j ≤ l.length) : SpIn w (.slice (cutA a cap i) (j - i) (cap - i)) ((l.take j).drop i) :=
  ⟨_, _, _, _, by rw [show ((l.take j).drop i).length = j - i by rw [List.length_drop, List.length_take]; omega], h.part i j hij hj⟩
theorem SpIn.head {w : World} {a : Option Addr} {b off cap : Nat} {l : List (Int × Int)} (h : SpAt w a b off cap l) (j : Nat) (hj : j ≤ l.length) : SpIn w (.slice (cutA a cap 0) j cap) (l.take j) := by
  have := SpIn.part h 0 j (by omega) hj
  simpa using this
theorem SpIn.tail {w : World} {a : Option Addr} {b off cap : Nat} {l : List (Int × Int)} (h : SpAt w a b off cap l) (i : Nat) (hi : i ≤ l.length) : SpIn w (.slice (cutA a cap i) (l.length - i) (cap - i)) (l.drop i) := by
  have := SpIn.part h i l.length hi (by omega)
  rwa [List.take_length] at this

/-- spans appended to a row of the call's own: the run. -/
theorem run_append_sp {w : World} (t ty : TypeId) (base : Nat) (e : TypeId) (he : Elt t e) (v : Value) (l : List (Int × Int)) (hown : Own w base e v l) (vx : Value) (m : List (Int × Int)) (hm : SpIn w vx m)
    (hlen : l.length + m.length ≤ 1099511627776) (hbase : base ≤ w.heap.size) :
    ∃ v' w', (Builtin.append_ #[t, t] ty #[v, vx]).run Try.prog w = .ok v' w' ∧ Own w' base e v' (l ++ m) ∧ w.grownBy w' v.ownBlock ∧ (v'.ownBlock = v.ownBlock ∨ v'.ownBlock = some w.heap.size) := by
  obtain ⟨i0, hi, hz0, hz1, hz2⟩ := info_parts he.i
  obtain ⟨ao, b, off, cap, rfl, hA⟩ := hm
  have hK : ∀ v' w', w'.ownsRow base e 2 v' (l.length + m.length) (pv l ++ pv m) → Own w' base e v' (l ++ m) := fun v' w' hh => by
    unfold Own
    rw [List.length_append, pv_app]
    exact hh
  cases ao with
  | some p =>
    obtain ⟨pb, po, pe⟩ := p
    obtain ⟨v', w', hr, h1, h2, _, h3⟩ := run_append_own_at (P := Try.prog) w base t ty e i0 (.agg #[.int .i64 0, .int .i64 0]) 2 16 he.u hi hz0 hz1 hz2 rfl (by decide) v l.length (pv l) hown ⟨pb, po, pe⟩ m.length cap (pv m) (pv_len m) (by
      intro j u hj
      have hj2 : j < m.length * 2 := by
        have := (List.getElem?_eq_some_iff.1 hj).1
        rwa [pv_len] at this
      have hp := hA.ha (by omega)
      cases hp
      rw [Addr.add_lit]
      have hd : j = j / 2 * 2 ∨ j = j / 2 * 2 + 1 := by omega
      have hq := pv_at m (j / 2) (by omega)
      rcases hd with hd | hd
      · rw [hd, hq.1] at hj
        rw [hd, ← hj]
        exact hA.c0 (j / 2) (by omega)
      · rw [hd, hq.2] at hj
        rw [hd, ← hj]
        exact hA.c1 (j / 2) (by omega)) (pv_one m) (by unfold maxLen; omega) (by omega) hbase
    exact ⟨v', w', hr, hK _ _ h1, h2, h3⟩
  | none =>
    obtain rfl := hA.hn rfl
    obtain rfl : m = [] := List.eq_nil_of_length_eq_zero (by have := hA.le; omega)
    exact ⟨v, w, run_append_owned_none w base t ty e i0 2 he.u hi v l.length (pv l) hown, by rw [List.append_nil]; exact hown, World.grownBy.refl _ _, .inl rfl⟩
/-- a row made, with room for c spans. -/
theorem run_make_sp (w : World) (base : Nat) (hb : base ≤ w.heap.size) (c : Nat) (hc : c ≤ 1099511627776) : ∃ w', (Instr.makeSlice 51 (.int .i64 0) (.int .i64 (c : Int))).run Try.prog w = .ok (.slice (some ⟨w.heap.size, 0, none⟩) 0 c) w' ∧ Own w' base 76 (.slice (some ⟨w.heap.size, 0, none⟩) 0 c) [] ∧ w.grownBy w' none := by
  obtain ⟨i0, hi, hz0, hz1, hz2⟩ := info_parts elt26.i
  exact run_make_own (P := Try.prog) w base 51 76 i0 (.agg #[.int .i64 0, .int .i64 0]) 2 elt26.u hi hz0 hz1 .i64 .i64 c (by rw [hz2]; omega) (by unfold maxLen; omega) hb

/-- all blocks but one of the call's own, and what is new, are as they were. -/
theorem Kp.grownB {w w' : World} {row : Option Nat} {base : Nat} {W : World} (k : Kp W w) (g : w.grownBy w' row) (hr : ∀ k, row = some k → base ≤ k) (hb : W.heap.size ≤ base) : Kp W w' := k.grown g (fun q hq => by have := hr q hq; omega)
theorem grown_cell {w w' : World} {row : Option Nat} (g : w.grownBy w' row) {b o : Nat} {v : Value} (h : w.cell? ⟨b, o, none⟩ = some v) (hr : ∀ k, row = some k → k ≠ b) : w'.cell? ⟨b, o, none⟩ = some v :=
  g.cell (a := ⟨b, o, none⟩) h (fun e => hr b e.symm rfl)
theorem grownBy_kp {a b c : World} {row : Option Nat} (g : a.grownBy b row) (k : Kp b c) : a.grownBy c row :=
  ⟨k.os.trans g.os, k.tape.trans g.tape, k.output.trans g.output, Nat.le_trans g.size k.size, fun i hi hne => (k.block i (Nat.lt_of_lt_of_le hi g.size)).trans (g.block i hi hne)⟩
theorem kp_grownBy {a b c : World} {row : Option Nat} (k : Kp a b) (g : b.grownBy c row) : a.grownBy c row :=
  ⟨g.os.trans k.os, g.tape.trans k.tape, g.output.trans k.output, Nat.le_trans k.size g.size, fun i hi hne => (g.block i (Nat.lt_of_lt_of_le hi k.size) hne).trans (k.block i hi)⟩

/-- where a grown row lies: where it lay, or in new memory. -/
def RowAt (w : World) (v v' : Value) : Prop := v'.ownBlock = v.ownBlock ∨ ∃ k, v'.ownBlock = some k ∧ w.heap.size ≤ k
theorem RowAt.refl (w : World) (v : Value) : RowAt w v v := .inl rfl

end Go.Proofs.Ytdfdoinhkjoalaa
