/-
  Labels in memory: lists of numbers (Nl), a label's five cells in a block (Lc), a label as a result. Conditions: that the cells hold what they are said to hold.
-/
import Derived.Test.YtobpgfnmhpgkeaaLbPlain
import Derived.Test.YtobpgfnmhpgkeaaGmGood
import Derived.Laws.ResultCell
namespace Go.Proofs.Ytobpgfnmhpgkeaa
open Go.RowKit Plain
set_option linter.unusedVariables false

/-- numbers in memory. -/
structure Na (w : World) (a : Option Addr) (g off cap : Nat) (l : List Int) : Prop where
  le : l.length ≤ cap
  mx : cap ≤ 9223372036854775807
  ha : 0 < l.length → a = some ⟨g, off, none⟩
  c : ∀ j, j < l.length → w.cell? ⟨g, off + j, none⟩ = some (.int .i64 (l.getD j 0))
def Nl (w : World) (v : Value) (l : List Int) : Prop := ∃ a g off cap, v = .slice a l.length cap ∧ Na w a g off cap l
theorem Na.kept {w w' : World} {a : Option Addr} {g off cap : Nat} {l : List Int} (h : Na w a g off cap l) (k : Kp w w') : Na w' a g off cap l := ⟨h.le, h.mx, h.ha, fun j hj => k.held (h.c j hj)⟩
theorem Nl.kept {w w' : World} {v : Value} {l : List Int} (h : Nl w v l) (k : Kp w w') : Nl w' v l := by
  obtain ⟨a, g, off, cap, rfl, h⟩ := h
  exact ⟨a, g, off, cap, rfl, h.kept k⟩
theorem Nl.nil (w : World) : Nl w (.slice none 0 0) [] := ⟨none, 0, 0, 0, rfl, ⟨by simp, by omega, fun h => absurd h (by simp), fun j hj => absurd hj (by simp)⟩⟩
theorem Nl.of {w : World} {v : Value} {l : List Int} (h : InI w v l) : Nl w v l := by
  obtain ⟨a, g, cap, rfl, h1, h2, h3, h4⟩ := h
  exact ⟨a, g, 0, cap, rfl, ⟨h1, h2, h3, fun j hj => by rw [Nat.zero_add]; exact h4 j hj⟩⟩
/-- a row of numbers of the call's own, whatever the type of its elements. -/
def Fe (e : TypeId) (w : World) (base : Nat) (v : Value) (n : Nat) (f : Nat → Int) : Prop := w.ownsRow base e 1 v n ((List.range n).map fun i => Value.int .i64 (f i))
theorem Fe.kept {e : TypeId} {w w' : World} {base : Nat} {v : Value} {n : Nat} {f : Nat → Int} (h : Fe e w base v n f) (k : Kp w w') : Fe e w' base v n f := k.own h
theorem Fe.shape {e : TypeId} {w : World} {base : Nat} {v : Value} {n : Nat} {f : Nat → Int} (h : Fe e w base v n f) : ∃ a cap, v = .slice a n cap ∧ n ≤ cap ∧ cap ≤ 9223372036854775807 ∧ (0 < n → ∃ g, a = some ⟨g, 0, none⟩ ∧ base ≤ g ∧ g < w.heap.size) := by
  rcases h.2 with ⟨rfl, rfl⟩ | ⟨g, cap, cur, rfl, hb, hg, hn, hm, _⟩
  · exact ⟨none, 0, rfl, by omega, by omega, fun h => absurd h (by omega)⟩
  · unfold maxLen at hm
    exact ⟨_, cap, rfl, hn, by omega, fun _ => ⟨g, rfl, hb, (Array.getElem?_eq_some_iff.1 hg).1⟩⟩
theorem Fe.at {e : TypeId} {w : World} {base g n cap : Nat} {f : Nat → Int} (h : Fe e w base (.slice (some ⟨g, 0, none⟩) n cap) n f) (j : Nat) (hj : j < n) : w.cell? ⟨g, j, none⟩ = some (.int .i64 (f j)) := by
  rw [World.ownsRow.cellAt h j (by omega)]
  simp [hj]
theorem Fe.z {e : TypeId} {w : World} {base g n cap : Nat} {f : Nat → Int} (h : Fe e w base (.slice (some ⟨g, 0, none⟩) n cap) n f) (o : Nat) : w.frozen? ⟨g, o, none⟩ = false := World.ownsRow.frozenAt h o
theorem Fe.set {e : TypeId} {w : World} {base g n cap : Nat} {f : Nat → Int} (h : Fe e w base (.slice (some ⟨g, 0, none⟩) n cap) n f) (j : Nat) (x : Int) : Fe e (w.setCell ⟨g, j, none⟩ (.int .i64 x)) base (.slice (some ⟨g, 0, none⟩) n cap) n (fun i => if i = j then x else f i) := by
  have h1 := (World.ownsRow.stored h j (.int .i64 x)).1
  have e : ((List.range n).map fun i => Value.int .i64 (if i = j then x else f i)) = ((List.range n).map fun i => Value.int .i64 (f i)).set j (.int .i64 x) := by
    apply List.ext_getElem?
    intro i
    rw [List.getElem?_set, List.getElem?_map, List.getElem?_map, List.length_map, List.length_range]
    by_cases hi : i < n
    · rw [List.getElem?_range hi]
      by_cases e : j = i
      · subst e; simp [hi]
      · have : ¬ i = j := fun h => e h.symm
        simp [e, this]
    · rw [List.getElem?_eq_none (by simpa using hi)]
      by_cases e : j = i
      · subst e; simp [hi]
      · simp [e]
  unfold Fe
  rw [e]
  exact h1
theorem Fe.congr {e : TypeId} {w : World} {base : Nat} {v : Value} {n : Nat} {f g : Nat → Int} (h : Fe e w base v n f) (he : ∀ j, j < n → f j = g j) : Fe e w base v n g := by
  have : ((List.range n).map fun i => Value.int .i64 (g i)) = (List.range n).map fun i => Value.int .i64 (f i) := List.map_congr_left fun i hi => by rw [he i (by simpa using hi)]
  unfold Fe
  rw [this]
  exact h
theorem Fe.made (e : TypeId) (w : World) (n : Nat) (hn : n ≤ 1000) : Fe e (w.alloc (.cells (madeCells #[.int .i64 0] n) e)) w.heap.size (.slice (some ⟨w.heap.size, 0, none⟩) n n) n (fun _ => 0) := by
  refine ⟨by simp, .inr ⟨w.heap.size, n, _, rfl, Nat.le_refl _, heap_alloc_new w _, Nat.le_refl _, by unfold maxLen; omega, by rw [size_madeCells]; simp, ?_⟩⟩
  apply List.ext_getElem?
  intro i
  by_cases hi : i < n
  · simp [madeCells, hi, Nat.mod_one]
  · simp [madeCells, hi, Nat.mod_one]
theorem Fe.nums {e : TypeId} {w : World} {base : Nat} {v : Value} {n : Nat} {f : Nat → Int} (h : Fe e w base v n f) : Nl w v ((List.range n).map f) := by
  obtain ⟨a, cap, rfl, h1, h2, h3⟩ := h.shape
  by_cases h0 : 0 < n
  · obtain ⟨g, rfl, _⟩ := h3 h0
    exact ⟨_, g, 0, cap, by simp, ⟨by simpa using h1, h2, fun _ => rfl, fun j hj => by
      have hj2 : j < n := by simpa using hj
      rw [Nat.zero_add, h.at j hj2]; simp [List.getD_eq_getElem?_getD, hj2]⟩⟩
  · obtain rfl : n = 0 := by omega
    exact ⟨a, 0, 0, cap, rfl, ⟨by simp, h2, fun h => absurd h (by simp), fun j hj => absurd hj (by simp)⟩⟩
theorem Fe.mono {e : TypeId} {w : World} {base b2 : Nat} {v : Value} {n : Nat} {f : Nat → Int} (h : Fe e w base v n f) (hb : b2 ≤ base) : Fe e w b2 v n f := by
  refine ⟨h.1, ?_⟩
  rcases h.2 with h' | ⟨g, cap, cur, h', hb', hr⟩
  · exact .inl h'
  · exact .inr ⟨g, cap, cur, h', by omega, hr⟩

/-! ### labels -/
def lV (n s ep : Int) (sv mv : Value) : Value := .agg #[.int .i64 n, .int .i64 s, .int .i64 ep, sv, mv]
/-- the five cells at block b. -/
structure Lc (w : World) (b : Nat) (n s ep : Int) (sv mv : Value) : Prop where
  c0 : w.cell? ⟨b, 0, none⟩ = some (.int .i64 n)
  c1 : w.cell? ⟨b, 1, none⟩ = some (.int .i64 s)
  c2 : w.cell? ⟨b, 2, none⟩ = some (.int .i64 ep)
  c3 : w.cell? ⟨b, 3, none⟩ = some sv
  c4 : w.cell? ⟨b, 4, none⟩ = some mv
theorem Lc.kept {w w' : World} {b : Nat} {n s ep : Int} {sv mv : Value} (h : Lc w b n s ep sv mv) (k : Kp w w') : Lc w' b n s ep sv mv := ⟨k.held h.c0, k.held h.c1, k.held h.c2, k.held h.c3, k.held h.c4⟩
theorem Lc.new (w : World) (n s ep : Int) (sv mv : Value) (t : TypeId) : Lc (w.alloc (.cells #[.int .i64 n, .int .i64 s, .int .i64 ep, sv, mv] t)) w.heap.size n s ep sv mv := by
  refine ⟨?_, ?_, ?_, ?_, ?_⟩ <;> (rw [World.cell?_alloc_at _ _ _ _ rfl]; rfl)
theorem load_cells {P : Program} {w : World} {b : Nat} (l : List Value) (h : ∀ j v, l[j]? = some v → w.cell? ⟨b, j, none⟩ = some v) (ty : TypeId) (fs : Array Field) (hu : P.underlying ty = some (.struct fs)) (hi : (P.info? ty).map (·.size) = some l.length) :
    (loadVar ty ⟨b, 0, none⟩).run P w = .ok (.agg l.toArray) w := by
  have hl : (loadCells ⟨b, 0, none⟩ l.length).run P w = .ok l.toArray w :=
    run_loadCells_list (P := P) w ⟨b, 0, none⟩ l (fun j x hx => by
      have hadd : (⟨b, 0, none⟩ : Addr).add j = ⟨b, j, none⟩ := by unfold Addr.add; split <;> simp_all
      rw [hadd]
      exact h j x hx)
  cases hq : P.info? ty with
  | none => simp [hq] at hi
  | some i =>
    have hs : i.size = l.length := by simpa [hq] using hi
    have hagg : (isAgg ty).run P w = .ok true w := by
      unfold isAgg
      rw [Sem.run_bind, run_underlying hu w]
      rfl
    simp [loadVar, Sem.run_bind, hagg, sizeOf, typeInfo, hq, hs, hl]
theorem size_lb : (Try.prog.info? 29).map (·.size) = some 5 := by kernel_rfl
theorem size_rl : (Try.prog.info? 32).map (·.size) = some 5 := by kernel_rfl
theorem Lc.at {w : World} {b : Nat} {n s ep : Int} {sv mv : Value} (h : Lc w b n s ep sv mv) (j : Nat) (v : Value) (hv : [Value.int .i64 n, .int .i64 s, .int .i64 ep, sv, mv][j]? = some v) : w.cell? ⟨b, j, none⟩ = some v := by
  match j, hv with
  | 0, hv => simp at hv; rw [← hv]; exact h.c0
  | 1, hv => simp at hv; rw [← hv]; exact h.c1
  | 2, hv => simp at hv; rw [← hv]; exact h.c2
  | 3, hv => simp at hv; rw [← hv]; exact h.c3
  | 4, hv => simp at hv; rw [← hv]; exact h.c4
theorem Lc.load {w : World} {b : Nat} {n s ep : Int} {sv mv : Value} (h : Lc w b n s ep sv mv) : (loadVar 29 ⟨b, 0, none⟩).run Try.prog w = .ok (lV n s ep sv mv) w :=
  load_cells [.int .i64 n, .int .i64 s, .int .i64 ep, sv, mv] h.at 29 _ Try.underlying29 size_lb
theorem Lc.rload {w : World} {b : Nat} {n s ep : Int} {sv mv : Value} (h : Lc w b n s ep sv mv) : (loadVar 32 ⟨b, 0, none⟩).run Try.prog w = .ok (lV n s ep sv mv) w :=
  load_cells [.int .i64 n, .int .i64 s, .int .i64 ep, sv, mv] h.at 32 _ Try.underlying32 size_rl
theorem results_lb {fn : Func} {t : Tmp} (h : fn.results = #[.cell t 29]) (tmps : Array Value) (w : World) (b : Nat) {n s ep : Int} {sv mv : Value} (hp : tmps.getD t undef = .pointer (some ⟨b, 0, none⟩)) (h0 : Lc w b n s ep sv mv) :
    (results fn tmps).run Try.prog w = .ok (lV n s ep sv mv) w := by
  have hp' : tmps[t]?.getD undef = .pointer (some ⟨b, 0, none⟩) := by simpa using hp
  simp [results, h, hp', asAddr, h0.load]
theorem results_lb2 {fn : Func} {t u : Tmp} (h : fn.results = #[.cell t 29, .tmp u]) (tmps : Array Value) (w : World) (b : Nat) {n s ep : Int} {sv mv x : Value} (hp : tmps.getD t undef = .pointer (some ⟨b, 0, none⟩)) (hx : tmps.getD u undef = x) (h0 : Lc w b n s ep sv mv) :
    (results fn tmps).run Try.prog w = .ok (.tuple #[lV n s ep sv mv, x]) w := by
  rw [results_cell_tmp h]
  rw [hp, hx]
  simp [asAddr, h0.load]
theorem results_rl2 {fn : Func} {t u : Tmp} (h : fn.results = #[.cell t 32, .tmp u]) (tmps : Array Value) (w : World) (b : Nat) {n s ep : Int} {sv mv x : Value} (hp : tmps.getD t undef = .pointer (some ⟨b, 0, none⟩)) (hx : tmps.getD u undef = x) (h0 : Lc w b n s ep sv mv) :
    (results fn tmps).run Try.prog w = .ok (.tuple #[lV n s ep sv mv, x]) w := by
  rw [results_cell_tmp h]
  rw [hp, hx]
  simp [asAddr, h0.rload]
theorem results_both {fn : Func} {t u : Tmp} (h : fn.results = #[.cell t 29, .cell u 32]) (tmps : Array Value) (w : World) (b c : Nat) {n s ep n2 s2 ep2 : Int} {sv mv sv2 mv2 : Value} (hp : tmps.getD t undef = .pointer (some ⟨b, 0, none⟩)) (hx : tmps.getD u undef = .pointer (some ⟨c, 0, none⟩)) (h0 : Lc w b n s ep sv mv) (h1 : Lc w c n2 s2 ep2 sv2 mv2) :
    (results fn tmps).run Try.prog w = .ok (.tuple #[lV n s ep sv mv, lV n2 s2 ep2 sv2 mv2]) w := by
  have hp' : tmps[t]?.getD undef = .pointer (some ⟨b, 0, none⟩) := by simpa using hp
  have hx' : tmps[u]?.getD undef = .pointer (some ⟨c, 0, none⟩) := by simpa using hx
  simp [results, h, hp', hx', asAddr, h0.load, h1.rload]

end Go.Proofs.Ytobpgfnmhpgkeaa
