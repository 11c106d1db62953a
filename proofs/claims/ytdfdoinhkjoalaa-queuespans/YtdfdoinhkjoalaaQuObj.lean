/-
  A queue in memory (QX), and contracts of New, Len, Full, Clock and find. Conditions: that the object lies in memory as QX says.
-/
import Derived.Test.YtdfdoinhkjoalaaQuIns
import Derived.Test.YtdfdoinhkjoalaaQuDel
import Derived.Test.YtdfdoinhkjoalaaSpReach
namespace Go.Proofs.Ytdfdoinhkjoalaa
open Go.RowKit Plain
set_option linter.unusedVariables false

/-- a queue's state: items by rising blocks, how many it takes, the clock. -/
structure QS where
  L : List It
  m : Nat
  c : Int
/-- items by rising blocks. -/
def Sr (l : List It) : Prop := l.Pairwise (fun x y => x.b < y.b)
/-- a queue in memory. -/
def QX (w0 w : World) (a : Nat) (T : List Nat) (S : QS) : Prop := ∃ v, T = a :: v.ownBlock.toList ∧ w.heap[a]? = some (.cells #[v, .int .i64 S.m, .int .i64 S.c] 65 (0, 0)) ∧ w0.heap.size ≤ a ∧ Oi w w0.heap.size 31 v S.L ∧ v.ownBlock ≠ some a ∧ w0.heap.size ≤ w.heap.size
theorem heap_lt {w : World} {a : Nat} {o : Obj} (h : w.heap[a]? = some o) : a < w.heap.size := (Array.getElem?_eq_some_iff.1 h).1
theorem cell_of {w : World} {a : Nat} {cs : Array Value} {t : TypeId} {f : Nat × Nat} (h : w.heap[a]? = some (.cells cs t f)) (j : Nat) : w.cell? ⟨a, j, none⟩ = cs[j]? := by
  unfold World.cell?
  simp [h]
theorem frozen_of {w : World} {a : Nat} {cs : Array Value} {t : TypeId} (h : w.heap[a]? = some (.cells cs t (0, 0))) (j : Nat) : w.frozen? ⟨a, j, none⟩ = false := by
  unfold World.frozen?
  simp [h]
theorem heap_set {w : World} {a : Nat} {cs : Array Value} {t : TypeId} (h : w.heap[a]? = some (.cells cs t (0, 0))) (j : Nat) (v : Value) : (w.setCell ⟨a, j, none⟩ v).heap[a]? = some (.cells (cs.setIfInBounds j v) t (0, 0)) := by
  rw [setCell_eq_setRow w a j _ t (0, 0) v h, setRow_heap w a _ _ t _ h]
theorem OL.qx : OL QX where
  low := by
    rintro w0 w a T S ⟨v, rfl, h1, h2, h3, h4, h5⟩ t ht
    rcases List.mem_cons.1 ht with rfl | ht
    · exact heap_lt h1
    · exact (h3.lt t (by simpa using ht)).2
  new := by
    rintro w0 w a T S ⟨v, rfl, h1, h2, h3, h4, h5⟩ t ht
    rcases List.mem_cons.1 ht with rfl | ht
    · exact h2
    · exact (h3.lt t (by simpa using ht)).1
  sp := by
    rintro w0 w w' a T T' S ⟨v, rfl, h1, h2, h3, h4, h5⟩ k hd
    exact ⟨v, rfl, (k.block a (heap_lt h1) (hd a (by simp))).trans h1, h2, h3.sp k (fun g hg => hd g (by simp [hg])), h4, Nat.le_trans h5 k.size⟩
theorem QX.kept {w0 w w' : World} {a : Nat} {T : List Nat} {S : QS} (h : QX w0 w a T S) (k : Kp w w') : QX w0 w' a T S := OL.qx.sp h (k.sp []) (fun _ _ h => by cases h)
theorem Nz.of {σ : Type} {O : World → World → Nat → List Nat → σ → Prop} (L : OL O) {w0 w w' : World} {b : Nat} {T : List Nat} {S : σ} (h : O w0 w b T S) (k : Kp w w') : Nz O w0 w w' b T S := ⟨T, L.sp h (k.sp []) (fun _ _ h => by cases h), k.sp _, Nw.refl _ _⟩

def qm (m : Int) : Nat := (min (max m 1) 256).toNat
theorem qm_is (m : Int) : ((qm m : Nat) : Int) = min (max m 1) 256 := by unfold qm; omega
theorem qm_pos (m : Int) : 1 ≤ qm m ∧ qm m ≤ 256 := by unfold qm; omega
set_option maxRecDepth 100000 in
theorem qnew_any (w0 : World) (m : Int) (w : World) (k0 : w0.heap.size ≤ w.heap.size) : Calls Try.prog 8 #[.int .i64 m] w fun e w' => ∃ a T, e = .returned (.pointer (some ⟨a, 0, none⟩)) ∧ QX w0 w' a T ⟨[], qm m, 0⟩ ∧ Kp w w' ∧ (∀ t ∈ T, w.heap.size ≤ t) := by
  have hmin := @imin Try.prog
  have hmax := @imax Try.prog
  have hq := qm_is m
  obtain ⟨n, hn⟩ : ∃ n : Nat, n = qm m := ⟨_, rfl⟩
  rw [← hn] at hq ⊢
  clear hn
  go_enter Try.func8, Try.ntmps8
  go_wp2
  go_ret
  refine ⟨w.heap.size, [w.heap.size], rfl, ⟨.slice none 0 0, rfl, ?_, k0, Oi.nil _ _ _, by simp [Value.ownBlock], by simp; omega⟩, (Kp.refl w).alloc _, fun t ht => by simp at ht; omega⟩
  rw [hq]
  unfold World.alloc
  exact Array.getElem?_push_size

set_option maxRecDepth 100000 in
theorem qlen_any {w0 w : World} {a : Nat} {T : List Nat} {S : QS} (h : QX w0 w a T S) (hl : S.L.length ≤ 1000) : Calls Try.prog 22 #[.pointer (some ⟨a, 0, none⟩)] w fun e w' => e = .returned (.int .i64 S.L.length) ∧ Kp w w' := by
  obtain ⟨v, rfl, h1, h2, h3, h4, h5⟩ := h
  have c0 := cell_of h1 0
  rcases h3.row with ⟨rfl, hl0⟩ | ⟨g, cap, cs, rfl, _, _, hle, hcm, _⟩
  · rw [hl0]
    have c1 : w.cell? ⟨a, 0, none⟩ = some (.slice none 0 0) := c0
    clear c0 h1 h3 h4
    go_enter Try.func22, Try.ntmps22
    go_wp2
    go_ret
    exact ⟨rfl, Kp.refl w⟩
  · obtain ⟨n, hn⟩ : ∃ n, n = S.L.length := ⟨_, rfl⟩
    rw [← hn] at c0 hle hl ⊢
    have c1 : w.cell? ⟨a, 0, none⟩ = some (.slice (some ⟨g, 0, none⟩) n cap) := c0
    clear c0 h1 h3 h4 hn
    go_enter Try.func22, Try.ntmps22
    go_wp2
    go_ret
    exact ⟨rfl, Kp.refl w⟩
set_option maxRecDepth 100000 in
theorem qclock_any {w0 w : World} {a : Nat} {T : List Nat} {S : QS} (h : QX w0 w a T S) : Calls Try.prog 27 #[.pointer (some ⟨a, 0, none⟩)] w fun e w' => e = .returned (.int .i64 S.c) ∧ Kp w w' := by
  obtain ⟨v, rfl, h1, h2, h3, h4, h5⟩ := h
  have c2 : w.cell? ⟨a, 2, none⟩ = some (.int .i64 S.c) := cell_of h1 2
  clear h1 h3 h4
  go_enter Try.func27, Try.ntmps27
  go_wp2
  go_ret
  exact ⟨rfl, Kp.refl w⟩
/-- is it full? -/
def qful (S : QS) : Bool := decide (S.m ≤ S.L.length)
set_option maxRecDepth 100000 in
theorem qfull_any {w0 w : World} {a : Nat} {T : List Nat} {S : QS} (h : QX w0 w a T S) (hl : S.L.length ≤ 1000) (hm : S.m ≤ 1000) : Calls Try.prog 25 #[.pointer (some ⟨a, 0, none⟩)] w fun e w' => e = .returned (.bool (qful S)) ∧ Kp w w' := by
  obtain ⟨v, rfl, h1, h2, h3, h4, h5⟩ := h
  unfold qful
  have c2 : w.cell? ⟨a, 1, none⟩ = some (.int .i64 S.m) := cell_of h1 1
  have c0 := cell_of h1 0
  obtain ⟨m, hm0⟩ : ∃ m, m = S.m := ⟨_, rfl⟩
  rw [← hm0] at c2 hm ⊢
  clear hm0
  have main : ∀ (p : Option Addr) (n c : Nat), n ≤ 1000 → w.cell? ⟨a, 0, none⟩ = some (.slice p n c) → Calls Try.prog 25 #[.pointer (some ⟨a, 0, none⟩)] w fun e w' => e = .returned (.bool (decide (m ≤ n))) ∧ Kp w w' := by
    intro p n c hn c1
    clear c0 h1 h3 h4
    by_cases hd : m ≤ n
    · have hd2 : decide ((m : Int) ≤ (n : Int)) = true := by simp; omega
      rw [decide_eq_true hd]
      go_enter Try.func25, Try.ntmps25
      go_wp2_with fail
      go_quiet (fail)
      go_wp2
      go_ret
      exact ⟨rfl, (Kp.refl w).drewN _⟩
    · have hd2 : decide ((m : Int) ≤ (n : Int)) = false := by simp; omega
      rw [decide_eq_false hd]
      go_enter Try.func25, Try.ntmps25
      go_wp2_with fail
      go_quiet (fail)
      go_wp2
      go_ret
      exact ⟨rfl, (Kp.refl w).drewN _⟩
  rcases h3.row with ⟨rfl, hl0⟩ | ⟨g, cap, cs, rfl, _, _, hle, hcm, _⟩
  · rw [hl0]
    exact main none 0 0 (by omega) c0
  · exact main _ _ cap hl c0

/-! ### find -/
set_option maxRecDepth 100000 in
theorem fclo_any (a g cap n : Nat) (x c : Int) (i : Nat) (hi : i < n) (bq bb : Nat) (w : World) (hq : w.cell? ⟨bq, 0, none⟩ = some (.pointer (some ⟨a, 0, none⟩))) (hl : w.cell? ⟨a, 0, none⟩ = some (.slice (some ⟨g, 0, none⟩) n cap)) (hx : w.cell? ⟨g, i * 3, none⟩ = some (.int .i64 x)) (hc : w.cell? ⟨bb, 0, none⟩ = some (.int .i64 c)) :
    Calls Try.prog 42 #[.int .i64 i, .pointer (some ⟨bq, 0, none⟩), .pointer (some ⟨bb, 0, none⟩)] w fun e w' => e = .returned (.bool (decide (c ≤ x))) ∧ Kp w w' := by
  have hiz : (i : Int) < (n : Int) := by omega
  go_enter Try.func42, Try.ntmps42
  go_wp2_with fail
  go_quiet (fail)
  go_wp2
  go_ret
  exact ⟨rfl, (Kp.refl w).drewN _⟩
theorem enterF : ∀ args w, (callFunc 42 args).run Try.prog w = .ok (.enter 42 args) w := enters_of Try.func42 (by kernel_rfl) rfl
/-- where a search ends: what is ahead has lesser blocks, what is behind hasn't. -/
def Fd (l : List It) (b : Int) (i : Nat) : Prop := i ≤ l.length ∧ (∀ x ∈ l.take i, x.b < b) ∧ ∀ x ∈ l.drop i, b ≤ x.b
theorem fd_of {l : List It} (hs : Sr l) {b : Int} {i : Nat} (hi : i ≤ l.length) (h1 : 0 < i → decide (b ≤ (l.getD (i - 1) iz).b) = false) (h2 : i < l.length → decide (b ≤ (l.getD i iz).b) = true) : Fd l b i := by
  refine ⟨hi, fun x hx => ?_, fun x hx => ?_⟩
  · obtain ⟨j, hj, rfl⟩ := List.getElem_of_mem hx
    have hjl : j < i := by rw [List.length_take] at hj; omega
    have h3 := h1 (by omega)
    rw [decide_eq_false_iff_not] at h3
    rw [List.getD_eq_getElem?_getD, List.getElem?_eq_getElem (by omega)] at h3
    simp only [Option.getD_some] at h3
    rw [List.getElem_take]
    by_cases e : j = i - 1
    · subst e; omega
    · have := List.pairwise_iff_getElem.1 hs j (i - 1) (by omega) (by omega) (by omega)
      omega
  · obtain ⟨j, hj, rfl⟩ := List.getElem_of_mem hx
    have hjl : j < l.length - i := by rw [List.length_drop] at hj; omega
    have h3 := h2 (by omega)
    rw [decide_eq_true_eq] at h3
    rw [List.getD_eq_getElem?_getD, List.getElem?_eq_getElem (by omega)] at h3
    simp only [Option.getD_some] at h3
    rw [List.getElem_drop]
    by_cases e : j = 0
    · subst e; simpa using h3
    · have := List.pairwise_iff_getElem.1 hs i (i + j) (by omega) (by omega) (by omega)
      omega
def isAt (l : List It) (b : Int) (i : Nat) : Bool := decide (i < l.length) && decide ((l.getD i iz).b = b)

set_option maxRecDepth 100000 in
set_option maxHeartbeats 2000000 in
theorem find_walk (a g cap : Nat) (p : Option Addr) (l : List It) (b : Int) (w : World) (hp : 0 < l.length → p = some ⟨g, 0, none⟩) (hlen : l.length ≤ 1000) (h0 : w.cell? ⟨a, 0, none⟩ = some (.slice p l.length cap)) (hc : ∀ i, i < l.length → w.cell? ⟨g, i * 3, none⟩ = some (.int .i64 (l.getD i iz).b)) :
    Calls Try.prog 28 #[.pointer (some ⟨a, 0, none⟩), .int .i64 b] w fun e w' => ∃ i : Nat, e = .returned (.tuple #[.int .i64 i, .bool (isAt l b i)]) ∧ i ≤ l.length ∧ (0 < i → decide (b ≤ (l.getD (i - 1) iz).b) = false) ∧ (i < l.length → decide (b ≤ (l.getD i iz).b) = true) ∧ Kp w w' := by
  obtain ⟨w0, hw0⟩ : ∃ w0, w0 = (w.alloc (.cells #[.pointer (some ⟨a, 0, none⟩)] 23)).alloc (.cells #[.int .i64 b] 3) := ⟨_, rfl⟩
  have HW : Hid (w0 = (w.alloc (.cells #[.pointer (some ⟨a, 0, none⟩)] 23)).alloc (.cells #[.int .i64 b] 3)) := hw0
  have k0 : Kp w w0 := by rw [hw0]; exact ((Kp.refl w).alloc _).alloc _
  have q0 : w0.cell? ⟨w.heap.size, 0, none⟩ = some (.pointer (some ⟨a, 0, none⟩)) := by rw [hw0]; simp
  have q1 : w0.cell? ⟨w.heap.size + 1, 0, none⟩ = some (.int .i64 b) := by rw [hw0, World.cell?_alloc_at _ _ _ _ (by simp)]; rfl
  have q2 : w0.cell? ⟨a, 0, none⟩ = some (.slice p l.length cap) := k0.held h0
  have q3 : ∀ i, i < l.length → w0.cell? ⟨g, i * 3, none⟩ = some (.int .i64 (l.getD i iz).b) := fun i hi => k0.held (hc i hi)
  clear hw0
  have hf1 : ∀ w', Kp w0 w' → ∀ i : Nat, i < l.length → Calls Try.prog 42 (#[.int .i64 i] ++ #[.pointer (some ⟨w.heap.size, 0, none⟩), .pointer (some ⟨w.heap.size + 1, 0, none⟩)]) w' fun e w'' => e = .returned (.bool (decide (b ≤ (l.getD i iz).b))) ∧ Kp w' w'' := fun w' k i hi => by
    have ha := hp (by omega)
    exact fclo_any a g cap l.length _ b i hi _ _ w' (k.held q0) (by rw [← ha]; exact k.held q2) (k.held (q3 i hi)) (k.held q1)
  have hs1 := search_any 42 #[.pointer (some ⟨w.heap.size, 0, none⟩), .pointer (some ⟨w.heap.size + 1, 0, none⟩)] l.length (fun i => decide (b ≤ (l.getD i iz).b)) w0 enterF (by omega) hf1
  clear hf1
  have Q3 : Hid (∀ i, i < l.length → w0.cell? ⟨g, i * 3, none⟩ = some (.int .i64 (l.getD i iz).b)) := q3
  clear q3 hc
  obtain ⟨n, hn⟩ : ∃ n, n = l.length := ⟨_, rfl⟩
  rw [← hn] at hs1 q2 hlen hp Q3 h0 ⊢
  have hmf : ∀ (fn : Fn) (first cap : Array Value) (w : World), (Instr.makeFunc fn first cap).run Try.prog w = .ok (.func fn first cap) w := fun _ _ _ _ => rfl
  have HS1 : Hid _ := hs1
  have HN : Hid (n = l.length) := hn
  have q4 : ((w.alloc (.cells #[.pointer (some ⟨a, 0, none⟩)] 23)).alloc (.cells #[.int .i64 b] 3)).cell? ⟨a, 0, none⟩ = some (.slice p n cap) := by rw [← HW.out]; exact q2
  clear hs1 hn h0
  go_enter Try.func28, Try.ntmps28
  go_wp2_with fail
  rw [show (w.alloc (.cells #[.pointer (some ⟨a, 0, none⟩)] 23)).alloc (.cells #[.int .i64 b] 3) = w0 from HW.out.symm]
  clear HW q4
  refine Calls.mono HS1.out ?_; rintro e w1 ⟨i, rfl, i1, i2, i3, k1⟩
  have HI : Hid ((0 < i → decide (b ≤ (l.getD (i - 1) iz).b) = false) ∧ (i < n → decide (b ≤ (l.getD i iz).b) = true)) := ⟨i2, i3⟩
  have d0 := k1.held q0
  have d1 := k1.held q1
  have d2 := k1.held q2
  clear i2 i3 HS1 q0 q1 q2
  by_cases hin : i < n
  · obtain rfl := hp (by omega)
    obtain ⟨y, hy⟩ : ∃ y, y = (l.getD i iz).b := ⟨_, rfl⟩
    have d3 := k1.held (Q3.out i hin)
    rw [← hy] at d3
    have hd : decide ((i : Int) < (n : Int)) = true := by simp; omega
    have hin2 : (i : Int) < (n : Int) := by omega
    have HA : Hid (isAt l b i = decide (y = b)) := by
      show isAt l b i = _
      unfold isAt
      rw [← hy, decide_eq_true (show i < l.length by rw [← HN.out]; exact hin), Bool.true_and]
    clear hy
    by_cases hyb : y = b
    · have hd2 : (y == b) = true := by simp [hyb]
      go_wp2_with fail
      go_quiet (fail)
      go_wp2
      go_ret2
      exact ⟨i, by rw [HA.out, decide_eq_true hyb]; rfl, i1, HI.out.1, HI.out.2, (k0.trans k1).drewN _⟩
    · have hd2 : (y == b) = false := by simp [hyb]
      go_wp2_with fail
      go_quiet (fail)
      go_wp2
      go_ret2
      exact ⟨i, by rw [HA.out, decide_eq_false hyb]; rfl, i1, HI.out.1, HI.out.2, (k0.trans k1).drewN _⟩
  · have hd : decide ((i : Int) < (n : Int)) = false := by simp; omega
    have HA : Hid (isAt l b i = false) := by
      show isAt l b i = _
      unfold isAt
      rw [decide_eq_false (show ¬ i < l.length by rw [← HN.out]; exact hin), Bool.false_and]
    go_wp2_with fail
    go_quiet (fail)
    go_wp2
    go_ret2
    exact ⟨i, by rw [HA.out]; rfl, i1, HI.out.1, HI.out.2, (k0.trans k1).drewN _⟩
theorem find_any {w0 w : World} {a : Nat} {T : List Nat} {S : QS} (h : QX w0 w a T S) (hs : Sr S.L) (hl : S.L.length ≤ 1000) (b : Int) : Calls Try.prog 28 #[.pointer (some ⟨a, 0, none⟩), .int .i64 b] w fun e w' => ∃ i : Nat, e = .returned (.tuple #[.int .i64 i, .bool (isAt S.L b i)]) ∧ Fd S.L b i ∧ Kp w w' := by
  obtain ⟨v, rfl, h1, h2, h3, h4, h5⟩ := h
  have c0 := cell_of h1 0
  have main : ∀ (p : Option Addr) (g cap : Nat), (0 < S.L.length → p = some ⟨g, 0, none⟩) → w.cell? ⟨a, 0, none⟩ = some (.slice p S.L.length cap) → (∀ i, i < S.L.length → w.cell? ⟨g, i * 3, none⟩ = some (.int .i64 (S.L.getD i iz).b)) → Calls Try.prog 28 #[.pointer (some ⟨a, 0, none⟩), .int .i64 b] w fun e w' => ∃ i : Nat, e = .returned (.tuple #[.int .i64 i, .bool (isAt S.L b i)]) ∧ Fd S.L b i ∧ Kp w w' := by
    intro p g cap hp q hc
    refine (find_walk a g cap p S.L b w hp hl q hc).mono ?_
    rintro e w' ⟨i, rfl, i1, i2, i3, k⟩
    exact ⟨i, rfl, fd_of hs i1 i2 i3, k⟩
  rcases h3.row with ⟨rfl, hl0⟩ | ⟨g, cap, cs, rfl, _, R, hle, hcm, ht⟩
  · exact main none 0 0 (fun h => by rw [hl0] at h; simp at h) (by rw [hl0]; exact c0) (fun i hi => by rw [hl0] at hi; simp at hi)
  · refine main _ g cap (fun _ => rfl) c0 (fun i hi => ?_)
    have := World.ownsRow.cellAt h3 (i * 3) (by omega)
    rw [this]
    exact (iv_at S.L i hi).1

end Go.Proofs.Ytdfdoinhkjoalaa
