/-
  The document's turn in memory (RX): rows of keys of the call's own (OwR), an append of one key, a store into a key; contracts of its New, Find, Dear. Conditions: that the object lies in memory as RX says.
-/
import Derived.Test.YteiangakgfekgaaTuRPlain
namespace Go.Proofs.Yteiangakgfekgaa
open Go.RowKit Plain
set_option linter.unusedVariables false

def rc (x : RK) : List Value := [.int .i64 x.n, .bool x.d, .bool x.p, .int .i64 x.w]
def rv : List RK → List Value
  | [] => []
  | p :: l => rc p ++ rv l
theorem rv_len : ∀ l, (rv l).length = l.length * 4
  | [] => rfl
  | p :: l => by simp only [rv, rc, List.length_append, List.length_cons, rv_len l, List.length_nil]; omega
theorem rv_app : ∀ l m, rv (l ++ m) = rv l ++ rv m
  | [], m => rfl
  | p :: l, m => by simp only [rv, List.cons_append, rv_app l m, List.append_assoc]
theorem rv_at : ∀ (l : List RK) (i : Nat), i < l.length → (rv l)[i * 4]? = some (.int .i64 (l.getD i rk0).n) ∧ (rv l)[i * 4 + 1]? = some (.bool (l.getD i rk0).d) ∧ (rv l)[i * 4 + 2]? = some (.bool (l.getD i rk0).p) ∧ (rv l)[i * 4 + 3]? = some (.int .i64 (l.getD i rk0).w)
  | [], i, h => by simp at h
  | p :: l, 0, h => by simp [rv, rc]
  | p :: l, i + 1, h => by
    have := rv_at l i (by simpa using h)
    rw [show (i + 1) * 4 = i * 4 + 1 + 1 + 1 + 1 by omega]
    simpa [rv, rc] using this
theorem rv_one : ∀ (l : List RK), ∀ u ∈ rv l, u.oneCell' = true
  | [], u, h => by simp [rv] at h
  | p :: l, u, h => by
    simp only [rv, rc, List.mem_append, List.mem_cons, List.not_mem_nil, or_false] at h
    rcases h with (rfl | rfl | rfl | rfl) | h
    · rfl
    · rfl
    · rfl
    · rfl
    · exact rv_one l u h
theorem rv_set1 : ∀ (A : List RK) (y : RK) (B : List RK) (b : Bool), (rv (A ++ y :: B)).set (A.length * 4 + 1) (.bool b) = rv (A ++ { y with d := b } :: B)
  | [], y, B, b => rfl
  | a :: A, y, B, b => by
    have := rv_set1 A y B b
    rw [show (a :: A).length * 4 + 1 = (A.length * 4 + 1) + 1 + 1 + 1 + 1 by simp; omega]
    simp only [rv, rc, List.cons_append, List.nil_append, List.set_cons_succ, this]
theorem rv_set2 : ∀ (A : List RK) (y : RK) (B : List RK) (b : Bool), (rv (A ++ y :: B)).set (A.length * 4 + 2) (.bool b) = rv (A ++ { y with p := b } :: B)
  | [], y, B, b => rfl
  | a :: A, y, B, b => by
    have := rv_set2 A y B b
    rw [show (a :: A).length * 4 + 2 = (A.length * 4 + 2) + 1 + 1 + 1 + 1 by simp; omega]
    simp only [rv, rc, List.cons_append, List.nil_append, List.set_cons_succ, this]
theorem rv_set3 : ∀ (A : List RK) (y : RK) (B : List RK) (x : Int), (rv (A ++ y :: B)).set (A.length * 4 + 3) (.int .i64 x) = rv (A ++ { y with w := x } :: B)
  | [], y, B, x => rfl
  | a :: A, y, B, x => by
    have := rv_set3 A y B x
    rw [show (a :: A).length * 4 + 3 = (A.length * 4 + 3) + 1 + 1 + 1 + 1 by simp; omega]
    simp only [rv, rc, List.cons_append, List.nil_append, List.set_cons_succ, this]

def OwR (w : World) (base : Nat) (v : Value) (l : List RK) : Prop := w.ownsRow base 69 4 v l.length (rv l)
def rkZ : Value := .agg #[.int .i64 0, .bool false, .bool false, .int .i64 0]
theorem info_rk : (Try.prog.info? 69).map (fun i => (i.zero, i.size, i.bytes)) = some (some rkZ, 4, 24) := by kernel_rfl
section
variable {w w' : World} {base : Nat} {v : Value} {l : List RK}
theorem OwR.kept (h : OwR w base v l) (k : Kp w w') : OwR w' base v l := k.own h
theorem OwR.sp {T : List Nat} (h : OwR w base v l) (k : Sp T w w') (hT : ∀ g, v.ownBlock = some g → g ∉ T) : OwR w' base v l := k.own h hT
theorem OwR.lt (h : OwR w base v l) : ∀ g, v.ownBlock = some g → base ≤ g ∧ g < w.heap.size := fun g hg => World.ownsRow.lt h g hg
end
theorem OwR.nil (w : World) (base : Nat) : OwR w base (.slice none 0 0) [] := ⟨rfl, .inl ⟨rfl, rfl⟩⟩
theorem OwR.mono {w : World} {base base' : Nat} {v : Value} {l : List RK} (h : OwR w base v l) (hb : base' ≤ base) : OwR w base' v l := by
  rcases h.2 with ⟨h', h0⟩ | ⟨g, cap, cur, h', hg, hr⟩
  · exact ⟨h.1, .inl ⟨h', h0⟩⟩
  · exact ⟨h.1, .inr ⟨g, cap, cur, h', Nat.le_trans hb hg, hr⟩⟩
theorem OwR.shape {w : World} {base : Nat} {v : Value} {l : List RK} (h : OwR w base v l) : ∃ p c, v = .slice p l.length c ∧ l.length ≤ c ∧ c ≤ 9223372036854775807 := by
  rcases h.2 with ⟨rfl, h0⟩ | ⟨g, cap, cur, rfl, _, hg, hn, hm, hcs, htake⟩
  · exact ⟨none, 0, by rw [h0], by omega, by omega⟩
  · exact ⟨_, cap, rfl, hn, by unfold maxLen at hm; omega⟩
/-- the row's cells. -/
theorem OwR.cells {w : World} {base n c : Nat} {p : Option Addr} {l : List RK} (h : OwR w base (.slice p n c) l) : n = l.length ∧ ∃ g, (0 < n → p = some ⟨g, 0, none⟩) ∧ (0 < n → (Value.slice p n c).ownBlock = some g) ∧ (∀ i, i < n → w.cell? ⟨g, i * 4, none⟩ = some (.int .i64 (l.getD i rk0).n) ∧ w.cell? ⟨g, i * 4 + 1, none⟩ = some (.bool (l.getD i rk0).d) ∧ w.cell? ⟨g, i * 4 + 2, none⟩ = some (.bool (l.getD i rk0).p) ∧ w.cell? ⟨g, i * 4 + 3, none⟩ = some (.int .i64 (l.getD i rk0).w)) ∧ ∀ j, 0 < n → w.frozen? ⟨g, j, none⟩ = false := by
  have h0 := h
  rcases h.2 with ⟨h1, h2⟩ | ⟨g, cap, cur, h1, _, hg, hn, hm, hcs, htake⟩
  · simp at h1
    obtain ⟨rfl, rfl, rfl⟩ := h1
    exact ⟨h2.symm, 0, fun h => absurd h (by omega), fun h => absurd h (by omega), fun i hi => absurd hi (by omega), fun j h => absurd h (by omega)⟩
  · simp at h1
    obtain ⟨rfl, rfl, rfl⟩ := h1
    refine ⟨rfl, g, fun _ => rfl, fun _ => rfl, fun i hi => ?_, fun j _ => World.ownsRow.frozenAt h0 j⟩
    have hq := rv_at l i hi
    refine ⟨?_, ?_, ?_, ?_⟩
    · rw [World.ownsRow.cellAt h0 (i * 4) (by omega)]; exact hq.1
    · rw [World.ownsRow.cellAt h0 (i * 4 + 1) (by omega)]; exact hq.2.1
    · rw [World.ownsRow.cellAt h0 (i * 4 + 2) (by omega)]; exact hq.2.2.1
    · rw [World.ownsRow.cellAt h0 (i * 4 + 3) (by omega)]; exact hq.2.2.2
/-- one key appended. -/
theorem wpList_append_rk {w : World} {ops : Array Oper} {rest : List Oper} {o : Oper} {a : Act} {Q : Exit → Act → World → Prop} (hgd : o.guard = none) (s x : Operand)
    (ho : o.op = .call { callee := .builtin .append, args := #[s, x], argTypes := #[61, 61] })
    (base : Nat) (v : Value) (l : List RK) (hs : a.eval s = v) (hown : OwR w base v l) (p : RK) (k : Nat) (hx : a.eval x = .slice (some ⟨k, 0, none⟩) 1 1) (hc : w.rangeAt k 0 (rc p))
    (hlen : l.length + 1 ≤ 1099511627776) (hbase : base ≤ w.heap.size)
    (h : ∀ v' w', OwR w' base v' (l ++ [p]) → w.grownBy w' v.ownBlock → (v'.ownBlock = v.ownBlock ∨ v'.ownBlock = some w.heap.size) → wpList Try.prog ops Q rest (a.put o.dst v') w') : wpList Try.prog ops Q (o :: rest) a w := by
  obtain ⟨i0, hi, hz0, hz1, hz2⟩ := info_parts info_rk
  refine wpList_append_own_at w hgd s x 61 ho base 69 i0 rkZ 4 24 Try.underlying61 hi hz0 hz1 hz2 rfl (by decide) v l.length (rv l) hs hown ⟨k, 0, none⟩ 1 1 (rc p) hx rfl ?_ (by simp [rc, Value.oneCell']) (by unfold maxLen; omega) (by omega) hbase (fun v' w' h1 h2 _ h3 => h v' w' ?_ h2 h3)
  · intro j u hj
    rw [Addr.add_lit]
    exact hc j u hj
  · unfold OwR
    rw [List.length_append, rv_app]
    have : rv [p] = rc p := by simp [rv]
    rw [this]
    exact h1
theorem lit_rk (w : World) (p : RK) (t : TypeId) (k : Nat) (hk : k = w.heap.size) : (w.alloc (.cells #[.int .i64 p.n, .bool p.d, .bool p.p, .int .i64 p.w] t)).rangeAt k 0 (rc p) := by
  subst hk
  intro j u hj
  rw [World.cell?_alloc_at _ _ _ _ rfl, ← hj, Nat.zero_add]
  unfold rc
  simp
/-- a cell of a key stored. -/
theorem OwR.set {w : World} {base g n c : Nat} {l m : List RK} (h : OwR w base (.slice (some ⟨g, 0, none⟩) n c) l) (j : Nat) (x : Value) (e : (rv l).set j x = rv m) (hl : m.length = l.length) : OwR (w.setCell ⟨g, j, none⟩ x) base (.slice (some ⟨g, 0, none⟩) n c) m := by
  obtain ⟨rfl, _⟩ := h.cells
  have h1 := (World.ownsRow.stored h j x).1
  unfold OwR
  rw [hl, ← e]
  exact h1

/-! ### the object -/
structure RB (w0 w : World) (a : Nat) (v : Value) (R : RS) : Prop where
  h : w.heap[a]? = some (.cells #[.int .i64 R.M, .int .i64 R.Z, v, .int .i64 R.c] 63 (0, 0))
  o : OwR w w0.heap.size v R.L
  ba : w0.heap.size ≤ a
  va : v.ownBlock ≠ some a
  sz : w0.heap.size ≤ w.heap.size
def RX (w0 w : World) (a : Nat) (T : List Nat) (R : RS) : Prop := ∃ v, T = a :: v.ownBlock.toList ∧ RB w0 w a v R
section
variable {w0 w w' w2 : World} {a : Nat} {v v' : Value} {R : RS} {l : List RK}
theorem RB.low (h : RB w0 w a v R) : ∀ t ∈ a :: v.ownBlock.toList, t < w.heap.size ∧ w0.heap.size ≤ t := by
  intro t ht
  rcases List.mem_cons.1 ht with rfl | ht
  · exact ⟨heap_lt h.h, h.ba⟩
  · have := h.o.lt t (by simpa using ht); omega
theorem RB.sp {T : List Nat} (h : RB w0 w a v R) (k : Sp T w w') (hd : ∀ t ∈ a :: v.ownBlock.toList, t ∉ T) : RB w0 w' a v R :=
  ⟨(k.block a (heap_lt h.h) (hd a (by simp))).trans h.h, h.o.sp k (fun g hg => hd g (by simp [hg])), h.ba, h.va, Nat.le_trans h.sz k.size⟩
theorem OL.rx : OL RX where
  low := by rintro w0 w a T S ⟨v, rfl, h⟩ t ht; exact (h.low t ht).1
  new := by rintro w0 w a T S ⟨v, rfl, h⟩ t ht; exact (h.low t ht).2
  sp := by rintro w0 w w' a T T' S ⟨v, rfl, h⟩ k hd; exact ⟨v, rfl, h.sp k hd⟩
theorem RB.kept (h : RB w0 w a v R) (k : Kp w w') : RB w0 w' a v R := h.sp (k.sp []) (fun _ _ h => by cases h)
theorem RX.kept {T : List Nat} (h : RX w0 w a T R) (k : Kp w w') : RX w0 w' a T R := OL.rx.sp h (k.sp []) (fun _ _ h => by cases h)
theorem RB.cells (h : RB w0 w a v R) : w.cell? ⟨a, 0, none⟩ = some (.int .i64 R.M) ∧ w.cell? ⟨a, 1, none⟩ = some (.int .i64 R.Z) ∧ w.cell? ⟨a, 2, none⟩ = some v ∧ w.cell? ⟨a, 3, none⟩ = some (.int .i64 R.c) ∧ ∀ j, w.frozen? ⟨a, j, none⟩ = false :=
  ⟨cell_of h.h 0, cell_of h.h 1, cell_of h.h 2, cell_of h.h 3, frozen_of h.h⟩
/-- another row laid into the object. -/
theorem RB.setL (h : RB w0 w a v R) (k : Sp v.ownBlock.toList w w2) (ho : OwR w2 w0.heap.size v' l) (hn : v'.ownBlock = v.ownBlock ∨ ∀ N, v'.ownBlock = some N → w.heap.size ≤ N) :
    RB w0 (w2.setCell ⟨a, 2, none⟩ v') a v' { R with L := l } ∧ Sp (a :: v.ownBlock.toList) w (w2.setCell ⟨a, 2, none⟩ v') ∧ Nw w (a :: v.ownBlock.toList) (a :: v'.ownBlock.toList) := by
  have ha := heap_lt h.h
  have h1' := (k.block a ha (fun e => h.va (by simpa using e))).trans h.h
  have hva : v'.ownBlock ≠ some a := by
    rcases hn with hn | hn
    · rw [hn]; exact h.va
    · intro e; have := hn a e; omega
  have k2 : Sp [a] w2 (w2.setCell ⟨a, 2, none⟩ v') := (Sp.refl _ _).set a _ (by simp) _
  refine ⟨⟨heap_set h1' 2 _, ho.sp k2 (fun q hq e => hva (by simp at e; rw [← e]; exact hq)), h.ba, hva, Nat.le_trans h.sz (Nat.le_trans k.size k2.size)⟩, ?_, ?_⟩
  · exact (k.mono (fun t ht => List.mem_cons_of_mem _ ht)).trans (k2.mono (fun t ht => by simp at ht; subst ht; simp))
  · intro t ht
    rcases List.mem_cons.1 ht with rfl | ht
    · exact .inl (by simp)
    · rcases hn with hn | hn
      · rw [hn] at ht; exact .inl (List.mem_cons_of_mem _ ht)
      · exact .inr (hn t (by simpa using ht))
/-- the clock moved on. -/
theorem RB.setC (h : RB w0 w a v R) (c : Int) : RB w0 (w.setCell ⟨a, 3, none⟩ (.int .i64 c)) a v { R with c := c } ∧ Sp (a :: v.ownBlock.toList) w (w.setCell ⟨a, 3, none⟩ (.int .i64 c)) := by
  have k2 : Sp [a] w (w.setCell ⟨a, 3, none⟩ (.int .i64 c)) := (Sp.refl _ _).set a _ (by simp) _
  exact ⟨⟨heap_set h.h 3 _, h.o.sp k2 (fun q hq e => h.va (by simp at e; rw [← e]; exact hq)), h.ba, h.va, Nat.le_trans h.sz k2.size⟩, k2.mono (fun t ht => by simp at ht; subst ht; simp)⟩
/-- a cell of a key stored. -/
theorem RB.setK {g n c : Nat} (h : RB w0 w a (.slice (some ⟨g, 0, none⟩) n c) R) (j : Nat) (x : Value) (e : (rv R.L).set j x = rv l) (hl : l.length = R.L.length) : RB w0 (w.setCell ⟨g, j, none⟩ x) a (.slice (some ⟨g, 0, none⟩) n c) { R with L := l } ∧ Sp (a :: (Value.slice (some ⟨g, 0, none⟩) n c).ownBlock.toList) w (w.setCell ⟨g, j, none⟩ x) := by
  have hga : a ≠ g := fun e => h.va (by rw [e]; rfl)
  have k2 : Sp [g] w (w.setCell ⟨g, j, none⟩ x) := (Sp.refl _ _).set g _ (by simp) _
  exact ⟨⟨(k2.block a (heap_lt h.h) (by simpa using hga)).trans h.h, h.o.set j x e hl, h.ba, h.va, Nat.le_trans h.sz k2.size⟩, k2.mono (fun t ht => by simp at ht; subst ht; simp [Value.ownBlock])⟩
end

set_option maxRecDepth 100000 in
set_option maxHeartbeats 1000000 in
theorem rnew_ok (w0 : World) (m d : Int) (h : newOk m d) (w : World) (k0 : w0.heap.size ≤ w.heap.size) : Calls Try.prog 8 #[.int .i64 m, .int .i64 d] w fun e w' => ∃ a T, e = .returned (.tuple #[.pointer (some ⟨a, 0, none⟩), .int .i64 0]) ∧ RX w0 w' a T ⟨m, d, [], 0⟩ ∧ Kp w w' ∧ ∀ t ∈ T, w.heap.size ≤ t := by
  obtain ⟨h1, h2, h3, h4⟩ := h
  have d1 : decide (m < 1) = false := by simp; omega
  have d2 : decide (64 < m) = false := by simp; omega
  have d3 : decide (d < 0) = false := by simp; omega
  have d4 : decide (m ≤ d) = false := by simp; omega
  clear h1 h2 h3 h4
  go_enter Try.func8, Try.ntmps8
  go_wp2
  go_ret2
  refine ⟨w.heap.size, [w.heap.size], rfl, ⟨.slice none 0 0, rfl, ⟨new_obj _ _ _, OwR.nil _ _, k0, by simp [Value.ownBlock], by simp; omega⟩⟩, (Kp.refl w).alloc _, fun t ht => by simp at ht; omega⟩
set_option maxRecDepth 100000 in
theorem rnew_no (m d : Int) (h : ¬ newOk m d) (w : World) : Calls Try.prog 8 #[.int .i64 m, .int .i64 d] w fun e w' => e = .returned (.tuple #[.pointer none, .int .i64 2]) ∧ Kp w w' := by
  by_cases h1 : m < 1
  · have d1 : decide (m < 1) = true := by simp [h1]
    go_enter Try.func8, Try.ntmps8
    go_wp2
    go_ret2
    exact ⟨rfl, Kp.refl w⟩
  · have d1 : decide (m < 1) = false := by simp; omega
    by_cases h2 : 64 < m
    · have d2 : decide (64 < m) = true := by simp [h2]
      go_enter Try.func8, Try.ntmps8
      go_wp2
      go_ret2
      exact ⟨rfl, Kp.refl w⟩
    · have d2 : decide (64 < m) = false := by simp; omega
      by_cases h3 : d < 0
      · have d3 : decide (d < 0) = true := by simp [h3]
        go_enter Try.func8, Try.ntmps8
        go_wp2
        go_ret2
        exact ⟨rfl, Kp.refl w⟩
      · have d3 : decide (d < 0) = false := by simp; omega
        have d4 : decide (m ≤ d) = true := by unfold newOk at h; simp; omega
        clear h
        go_enter Try.func8, Try.ntmps8
        go_wp2
        go_ret2
        exact ⟨rfl, Kp.refl w⟩
/-- where the key stands first. -/
def Fr (l : List RK) (b : Int) (z : Int) : Prop := (z = -1 ∧ ∀ x ∈ l, x.n ≠ b) ∨ ∃ A y B, l = A ++ y :: B ∧ z = (A.length : Int) ∧ y.n = b ∧ ∀ x ∈ A, x.n ≠ b
set_option maxRecDepth 100000 in
set_option maxHeartbeats 2000000 in
theorem rfind_any {w0 w : World} {a : Nat} {T : List Nat} {R : RS} (h : RX w0 w a T R) (hl : R.L.length ≤ 1000) (b : Int) : Calls Try.prog 30 #[.pointer (some ⟨a, 0, none⟩), .int .i64 b] w fun e w' => ∃ z, e = .returned (.int .i64 z) ∧ Fr R.L b z ∧ w' = w := by
  obtain ⟨v, _, hB⟩ := h
  obtain ⟨_, _, c2, _, _⟩ := hB.cells
  obtain ⟨p, c, rfl, q1, q2⟩ := hB.o.shape
  obtain ⟨_, g, hp, _, hc, _⟩ := hB.o.cells
  obtain ⟨l, hL⟩ : ∃ l, l = R.L := ⟨_, rfl⟩
  rw [← hL] at c2 q1 hp hc hl ⊢
  obtain ⟨n, hn⟩ : ∃ n, n = l.length := ⟨_, rfl⟩
  rw [← hn] at c2 q1 hp hc hl
  have HN := hid hn
  have HC : Hid (∀ i, i < n → w.cell? ⟨g, i * 4, none⟩ = some (.int .i64 (l.getD i rk0).n)) := fun i hi => (hc i hi).1
  have HP := hid hp
  clear hB hL hn hc hp
  go_enter Try.func30, Try.ntmps30
  go_wp2
  go_loopw [5] (fun q wr => ∃ i : Nat, q = .int .i64 i ∧ i ≤ n ∧ Hid (∀ x ∈ l.take i, x.n ≠ b) ∧ wr = w) (fun q _ => n - (intOf q).toNat)
  case atStart => exact ⟨0, rfl, by omega, (by simp : ∀ x ∈ l.take 0, x.n ≠ b), rfl⟩
  case round =>
    obtain ⟨i, rfl, hi, HI, hw⟩ := hrel
    rw [hw]
    clear hw
    by_cases hin : i < n
    · obtain rfl := HP.out (by omega)
      have d0 := HC.out i hin
      have hil : i < l.length := by have := HN.out; omega
      obtain ⟨y, hy⟩ : ∃ y, y = (l.getD i rk0).n := ⟨_, rfl⟩
      rw [← hy] at d0
      have HY := hid hy
      have hi3 : (i : Int) < (n : Int) := by omega
      clear hy
      by_cases hyb : y = b
      · have hd2 : (y == b) = true := by simp [hyb]
        have HYB := hid hyb
        clear hyb
        go_wp2
        go_ret
        refine ⟨_, rfl, .inr ⟨l.take i, l.getD i rk0, l.drop (i + 1), rk_at hil, ?_, by rw [← HY.out]; exact HYB.out, HI.out⟩, rfl⟩
        rw [List.length_take, Nat.min_eq_left (by omega)]
      · have hd2 : (y == b) = false := by simp [hyb]
        have HI2 : Hid (∀ x ∈ l.take (i + 1), x.n ≠ b) := by
          show ∀ x ∈ l.take (i + 1), x.n ≠ b
          intro x hx
          rw [rk_take hil] at hx
          rcases List.mem_append.1 hx with hx | hx
          · exact HI.out x hx
          · rw [List.mem_singleton.1 hx, ← HY.out]; exact hyb
        go_wp2
        go_roundw
        case rel => exact ⟨i + 1, by go_num, by omega, HI2, trivial⟩
        case measure => simp [intOf]; omega
    · obtain rfl : i = n := by omega
      go_wp2
      go_ret
      exact ⟨_, rfl, .inl ⟨rfl, fun x hx => HI.out x (by rw [List.take_of_length_le (by have := HN.out; omega)]; exact hx)⟩, rfl⟩
set_option maxRecDepth 100000 in
set_option maxHeartbeats 2000000 in
theorem rdear_any {w0 w : World} {a : Nat} {T : List Nat} {R : RS} (h : RX w0 w a T R) (hl : R.L.length ≤ 1000) : Calls Try.prog 31 #[.pointer (some ⟨a, 0, none⟩)] w fun e w' => e = .returned (.int .i64 (((R.L.filter RK.d).length : Nat) : Int)) ∧ w' = w := by
  obtain ⟨v, _, hB⟩ := h
  obtain ⟨_, _, c2, _, _⟩ := hB.cells
  obtain ⟨p, c, rfl, q1, q2⟩ := hB.o.shape
  obtain ⟨_, g, hp, _, hc, _⟩ := hB.o.cells
  obtain ⟨l, hL⟩ : ∃ l, l = R.L := ⟨_, rfl⟩
  rw [← hL] at c2 q1 hp hc hl ⊢
  obtain ⟨n, hn⟩ : ∃ n, n = l.length := ⟨_, rfl⟩
  rw [← hn] at c2 q1 hp hc hl
  have HN := hid hn
  have HC : Hid (∀ i, i < n → w.cell? ⟨g, i * 4 + 1, none⟩ = some (.bool (l.getD i rk0).d)) := fun i hi => (hc i hi).2.1
  have HP := hid hp
  clear hB hL hn hc hp
  go_enter Try.func31, Try.ntmps31
  go_wp2
  go_loopw [3, 4] (fun r q wr => ∃ i j : Nat, q = .int .i64 i ∧ r = .int .i64 j ∧ i ≤ n ∧ j ≤ i ∧ Hid (j = ((l.take i).filter RK.d).length) ∧ wr = w) (fun _ q _ => n - (intOf q).toNat)
  case atStart => exact ⟨0, 0, rfl, rfl, by omega, by omega, (by simp : 0 = ((l.take 0).filter RK.d).length), rfl⟩
  case round =>
    obtain ⟨i, j, rfl, rfl, hi, hji, HI, hw⟩ := hrel
    rw [hw]
    clear hw
    by_cases hin : i < n
    · obtain rfl := HP.out (by omega)
      have d0 := HC.out i hin
      have hil : i < l.length := by have := HN.out; omega
      have hi3 : (i : Int) < (n : Int) := by omega
      have hnx : ((l.take (i + 1)).filter RK.d).length = ((l.take i).filter RK.d).length + (if (l.getD i rk0).d = true then 1 else 0) := by
        rw [rk_take hil, List.filter_append, List.length_append]
        congr 1
        rw [List.filter_cons]
        split <;> rfl
      rw [← HI.out] at hnx
      cases hb : (l.getD i rk0).d with
      | true =>
        rw [hb, if_pos rfl] at hnx
        rw [hb] at d0
        have HI2 : Hid (j + 1 = ((l.take (i + 1)).filter RK.d).length) := hnx.symm
        clear hnx hb HI
        go_wp2
        go_roundw
        case rel => exact ⟨i + 1, j + 1, by go_num, by go_num, by omega, by omega, HI2, trivial⟩
        case measure => simp [intOf]; omega
      | false =>
        rw [hb, if_neg (by decide)] at hnx
        rw [hb] at d0
        have HI2 : Hid (j = ((l.take (i + 1)).filter RK.d).length) := hnx.symm
        clear hnx hb HI
        go_wp2
        go_roundw
        case rel => exact ⟨i + 1, j, by go_num, rfl, by omega, by omega, HI2, trivial⟩
        case measure => simp [intOf]; omega
    · obtain rfl : i = n := by omega
      have HE : Hid (j = (l.filter RK.d).length) := by
        have := HI.out
        rwa [List.take_of_length_le (by have := HN.out; omega)] at this
      clear HI
      go_wp2
      go_ret
      exact ⟨by rw [← HE.out]; rfl, rfl⟩

end Go.Proofs.Yteiangakgfekgaa
