/-
  Rows of numbers of the call's own (OwnI, FI), numbers in memory (InI). Conditions: that the cells hold the numbers.
-/
import Derived.Test.YtcmomebjkbhboaaLfMem
import Derived.Deep.Quiet
import Derived.Deep.QuietTactic
import Derived.BigQuiet
namespace Go.Proofs.Ytcmomebjkbhboaa
open Go.RowKit Plain
set_option linter.unusedVariables false

theorem Kp.own {w w' : World} (k : Kp w w') {base : Nat} {e : TypeId} {size : Nat} {v : Value} {n : Nat} {xs : List Value} (h : w.ownsRow base e size v n xs) : w'.ownsRow base e size v n xs := by
  rcases h.2 with ⟨h', h0⟩ | ⟨g, cap, cur, h', hb, hg, hr⟩
  · exact ⟨h.1, .inl ⟨h', h0⟩⟩
  · exact ⟨h.1, .inr ⟨g, cap, cur, h', hb, (k.block g (Array.getElem?_eq_some_iff.1 hg).1).trans hg, hr⟩⟩
theorem own_lt {w : World} {base : Nat} {e : TypeId} {size : Nat} {v : Value} {n : Nat} {xs : List Value} (h : w.ownsRow base e size v n xs) : ∀ k, v.ownBlock = some k → base ≤ k := fun k hk => (h.lt k hk).1
theorem Kp.drewN {a b : World} (h : Kp a b) (n : Nat) : Kp a (b.drewN n) := ⟨h.os, h.tape, h.output, h.size, h.block⟩
theorem imin {P : Program} (ts : Array TypeId) (t : TypeId) (x y : Int) (w : World) : (Builtin.min_ ts t #[.int .i64 x, .int .i64 y]).run P w = .ok (.int .i64 (min x y)) w := by
  rw [run_min_int2]
  congr 2
  split <;> omega
theorem imax {P : Program} (ts : Array TypeId) (t : TypeId) (x y : Int) (w : World) : (Builtin.max_ ts t #[.int .i64 x, .int .i64 y]).run P w = .ok (.int .i64 (max x y)) w := by
  rw [run_max_int2]
  congr 2
  split <;> omega

/-! ### rows of numbers -/
def nv (l : List Int) : List Value := l.map (Value.int .i64)
def OwnI (w : World) (base : Nat) (v : Value) (l : List Int) : Prop := w.ownsRow base 3 1 v l.length (nv l)
theorem info_int : (Try.prog.info? 3).map (fun i => (i.zero, i.size, i.bytes)) = some (some (.int .i64 0), 1, 8) := by kernel_rfl
theorem OwnI.kept {w w' : World} {base : Nat} {v : Value} {l : List Int} (h : OwnI w base v l) (k : Kp w w') : OwnI w' base v l := k.own h
theorem OwnI.alloc {w : World} {base : Nat} {v : Value} {l : List Int} (h : OwnI w base v l) (o : Obj) : OwnI (w.alloc o) base v l := ((Kp.refl w).alloc o).own h
/-- one number appended. -/
theorem wpList_append_int {w : World} {ops : Array Oper} {rest : List Oper} {o : Oper} {a : Act} {Q : Exit → Act → World → Prop} (hgd : o.guard = none) (s x : Operand)
    (ho : o.op = .call { callee := .builtin .append, args := #[s, x], argTypes := #[43, 43] })
    (base : Nat) (v : Value) (l : List Int) (hs : a.eval s = v) (hown : OwnI w base v l) (p : Int) (k : Nat) (hx : a.eval x = .slice (some ⟨k, 0, none⟩) 1 1) (hc : w.cell? ⟨k, 0, none⟩ = some (.int .i64 p))
    (hlen : l.length + 1 ≤ 1099511627776) (hbase : base ≤ w.heap.size)
    (h : ∀ v' w', OwnI w' base v' (l ++ [p]) → w.grownBy w' v.ownBlock → wpList Try.prog ops Q rest (a.put o.dst v') w') : wpList Try.prog ops Q (o :: rest) a w := by
  obtain ⟨i0, hi, hz0, hz1, hz2⟩ := info_parts info_int
  refine wpList_append_own_at w hgd s x 43 ho base 3 i0 (.int .i64 0) 1 8 Try.underlying43 hi hz0 hz1 hz2 rfl (by decide) v l.length (nv l) hs hown ⟨k, 0, none⟩ 1 1 [.int .i64 p] hx rfl ?_ (by simp [Value.oneCell']) (by unfold maxLen; omega) (by omega) hbase (fun v' w' h1 h2 _ _ => h v' w' ?_ h2)
  · intro j u hj
    match j, hj with
    | 0, hj => simp at hj; subst hj; simpa [Addr.add] using hc
  · unfold OwnI nv
    rw [List.length_append, List.map_append]
    exact h1
/-- a row of numbers, by a function. -/
def FI (w : World) (base : Nat) (v : Value) (n : Nat) (f : Nat → Int) : Prop := w.ownsRow base 3 1 v n ((List.range n).map fun i => Value.int .i64 (f i))
theorem FI.of {w : World} {base : Nat} {v : Value} {l : List Int} (h : OwnI w base v l) : FI w base v l.length (fun i => l.getD i 0) := by
  have e : ((List.range l.length).map fun i => Value.int .i64 (l.getD i 0)) = nv l := by
    apply List.ext_getElem?
    intro i
    unfold nv
    rw [List.getElem?_map, List.getElem?_map]
    by_cases hi : i < l.length
    · rw [List.getElem?_range hi, List.getElem?_eq_getElem hi]
      simp [List.getD_eq_getElem?_getD, hi]
    · rw [List.getElem?_eq_none (by simpa using hi), List.getElem?_eq_none (by omega)]; rfl
  unfold FI
  rw [e]
  exact h
theorem FI.kept {w w' : World} {base : Nat} {v : Value} {n : Nat} {f : Nat → Int} (h : FI w base v n f) (k : Kp w w') : FI w' base v n f := k.own h
theorem FI.shape {w : World} {base : Nat} {v : Value} {n : Nat} {f : Nat → Int} (h : FI w base v n f) : ∃ a cap, v = .slice a n cap ∧ n ≤ cap ∧ cap ≤ 9223372036854775807 ∧ (0 < n → ∃ g, a = some ⟨g, 0, none⟩ ∧ base ≤ g) := by
  rcases h.2 with ⟨rfl, rfl⟩ | ⟨g, cap, cur, rfl, hb, hg, hn, hm, _⟩
  · exact ⟨none, 0, rfl, by omega, by omega, fun h => absurd h (by omega)⟩
  · unfold maxLen at hm
    exact ⟨_, cap, rfl, hn, by omega, fun _ => ⟨g, rfl, hb⟩⟩
theorem FI.at {w : World} {base g n cap : Nat} {f : Nat → Int} (h : FI w base (.slice (some ⟨g, 0, none⟩) n cap) n f) (j : Nat) (hj : j < n) : w.cell? ⟨g, j, none⟩ = some (.int .i64 (f j)) := by
  rw [World.ownsRow.cellAt h j (by omega)]
  simp [hj]
theorem FI.z {w : World} {base g n cap : Nat} {f : Nat → Int} (h : FI w base (.slice (some ⟨g, 0, none⟩) n cap) n f) (o : Nat) : w.frozen? ⟨g, o, none⟩ = false := World.ownsRow.frozenAt h o
theorem FI.set {w : World} {base g n cap : Nat} {f : Nat → Int} (h : FI w base (.slice (some ⟨g, 0, none⟩) n cap) n f) (j : Nat) (x : Int) : FI (w.setCell ⟨g, j, none⟩ (.int .i64 x)) base (.slice (some ⟨g, 0, none⟩) n cap) n (fun i => if i = j then x else f i) := by
  have h1 := (World.ownsRow.stored h j (.int .i64 x)).1
  have e : ((List.range n).map fun i => Value.int .i64 (if i = j then x else f i)) = ((List.range n).map fun i => Value.int .i64 (f i)).set j (.int .i64 x) := by
    apply List.ext_getElem?
    intro i
    rw [List.getElem?_set, List.getElem?_map, List.getElem?_map, List.length_map, List.length_range]
    by_cases hi : i < n
    · rw [List.getElem?_range hi]
      by_cases e : j = i
      · subst e; simp [hi]
      · have : ¬ i = j := fun h => e h.symm
        simp [e, this]
    · rw [List.getElem?_eq_none (by simpa using hi)]
      by_cases e : j = i
      · subst e; simp [hi]
      · simp [e]
  unfold FI
  rw [e]
  exact h1
theorem FI.congr {w : World} {base : Nat} {v : Value} {n : Nat} {f g : Nat → Int} (h : FI w base v n f) (e : ∀ j, f j = g j) : FI w base v n g := by
  rw [show g = f from funext fun j => (e j).symm]; exact h
theorem Kp.setB {a w : World} (h : Kp a w) {b o : Nat} (hb : a.heap.size ≤ b) (u : Value) : Kp a (w.setCell ⟨b, o, none⟩ u) := Below.setCell h (p := ⟨b, o, none⟩) hb u
/-- numbers in memory. -/
def InI (w : World) (v : Value) (l : List Int) : Prop := ∃ a g cap, v = .slice a l.length cap ∧ l.length ≤ cap ∧ cap ≤ 9223372036854775807 ∧ (0 < l.length → a = some ⟨g, 0, none⟩) ∧ ∀ j, j < l.length → w.cell? ⟨g, j, none⟩ = some (.int .i64 (l.getD j 0))
theorem OwnI.ints {w : World} {base : Nat} {v : Value} {l : List Int} (h : OwnI w base v l) : InI w v l := by
  have h1 := FI.of h
  obtain ⟨a, cap, rfl, hn, hc, hg⟩ := h1.shape
  by_cases h0 : 0 < l.length
  · obtain ⟨g, rfl, _⟩ := hg h0
    exact ⟨_, g, cap, rfl, hn, hc, fun _ => rfl, fun j hj => h1.at j hj⟩
  · exact ⟨a, 0, cap, rfl, hn, hc, fun h => absurd h h0, fun j hj => absurd hj (by omega)⟩
theorem InI.kept {w w' : World} {v : Value} {l : List Int} (h : InI w v l) (k : Kp w w') : InI w' v l := by
  obtain ⟨a, g, cap, rfl, h1, h2, h3, h4⟩ := h
  exact ⟨a, g, cap, rfl, h1, h2, h3, fun j hj => k.held (h4 j hj)⟩

end Go.Proofs.Ytcmomebjkbhboaa
