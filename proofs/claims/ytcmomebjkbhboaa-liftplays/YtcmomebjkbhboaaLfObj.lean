/-
  A lift in memory (LX), and contracts of New, Len, Head, find and its closure, of slices.IndexFunc. Conditions: that the object lies in memory as LX says.
-/
import Derived.Test.YtcmomebjkbhboaaLfDel
import Derived.Deep.LoopGhost
import Derived.Shelf.Abstract
import Derived.WalkKit
namespace Go.Proofs.Ytcmomebjkbhboaa
open Go.RowKit Plain
set_option linter.unusedVariables false

theorem hid {p : Prop} (h : p) : Hid p := h
theorem heap_lt {w : World} {a : Nat} {o : Obj} (h : w.heap[a]? = some o) : a < w.heap.size := (Array.getElem?_eq_some_iff.1 h).1
theorem cell_of {w : World} {a : Nat} {cs : Array Value} {t : TypeId} {f : Nat × Nat} (h : w.heap[a]? = some (.cells cs t f)) (j : Nat) : w.cell? ⟨a, j, none⟩ = cs[j]? := by
  unfold World.cell?
  simp [h]
theorem frozen_of {w : World} {a : Nat} {cs : Array Value} {t : TypeId} (h : w.heap[a]? = some (.cells cs t (0, 0))) (j : Nat) : w.frozen? ⟨a, j, none⟩ = false := by
  unfold World.frozen?
  simp [h]
theorem heap_set {w : World} {a : Nat} {cs : Array Value} {t : TypeId} (h : w.heap[a]? = some (.cells cs t (0, 0))) (j : Nat) (v : Value) : (w.setCell ⟨a, j, none⟩ v).heap[a]? = some (.cells (cs.setIfInBounds j v) t (0, 0)) := by
  rw [setCell_eq_setRow w a j _ t (0, 0) v h, setRow_heap w a _ _ t _ h]
theorem new_obj (w : World) (cs : Array Value) (t : TypeId) : (w.alloc (.cells cs t)).heap[w.heap.size]? = some (.cells cs t (0, 0)) := by unfold World.alloc; exact Array.getElem?_push_size
theorem Nz.of {σ : Type} {O : World → World → Nat → List Nat → σ → Prop} (L : OL O) {w0 w w' : World} {b : Nat} {T : List Nat} {S : σ} (h : O w0 w b T S) (k : Kp w w') : Nz O w0 w w' b T S := ⟨T, L.sp h (k.sp []) (fun _ _ h => by cases h), k.sp _, Nw.refl _ _⟩

/-- a lift's state: keys that wait as they came, its age, its head. -/
structure LS where
  L : List Wt
  g : Int
  h : Int
/-- a lift in memory. -/
def LX (w0 w : World) (a : Nat) (T : List Nat) (S : LS) : Prop := ∃ v, T = a :: v.ownBlock.toList ∧ w.heap[a]? = some (.cells #[v, .int .i64 S.g, .int .i64 S.h] 49 (0, 0)) ∧ w0.heap.size ≤ a ∧ Ow w w0.heap.size 53 v S.L ∧ v.ownBlock ≠ some a ∧ w0.heap.size ≤ w.heap.size
theorem OL.lx : OL LX where
  low := by
    rintro w0 w a T S ⟨v, rfl, h1, h2, h3, h4, h5⟩ t ht
    rcases List.mem_cons.1 ht with rfl | ht
    · exact heap_lt h1
    · exact (h3.lt t (by simpa using ht)).2
  new := by
    rintro w0 w a T S ⟨v, rfl, h1, h2, h3, h4, h5⟩ t ht
    rcases List.mem_cons.1 ht with rfl | ht
    · exact h2
    · exact (h3.lt t (by simpa using ht)).1
  sp := by
    rintro w0 w w' a T T' S ⟨v, rfl, h1, h2, h3, h4, h5⟩ k hd
    exact ⟨v, rfl, (k.block a (heap_lt h1) (hd a (by simp))).trans h1, h2, h3.sp k (fun g hg => hd g (by simp [hg])), h4, Nat.le_trans h5 k.size⟩
theorem LX.kept {w0 w w' : World} {a : Nat} {T : List Nat} {S : LS} (h : LX w0 w a T S) (k : Kp w w') : LX w0 w' a T S := OL.lx.sp h (k.sp []) (fun _ _ h => by cases h)
/-- the row's cells. -/
theorem Ow.cells {w : World} {base : Nat} {e : TypeId} {v : Value} {l : List Wt} (h : Ow w base e v l) : ∃ p g cap, v = .slice p l.length cap ∧ (0 < l.length → p = some ⟨g, 0, none⟩ ∧ v.ownBlock = some g) ∧ l.length ≤ cap ∧ cap ≤ 9223372036854775807 ∧ ∀ i, i < l.length → w.cell? ⟨g, i * 2, none⟩ = some (.int .i64 (l.getD i wz).k) ∧ w.cell? ⟨g, i * 2 + 1, none⟩ = some (.int .i64 (l.getD i wz).n) := by
  rcases h.row with ⟨rfl, rfl⟩ | ⟨g, cap, cs, rfl, _, R, hle, hcm, ht⟩
  · exact ⟨none, 0, 0, rfl, fun h => absurd h (by simp), by simp, by omega, fun i hi => absurd hi (by simp)⟩
  · refine ⟨_, g, cap, rfl, fun _ => ⟨rfl, rfl⟩, hle, by unfold maxLen at hcm; omega, fun i hi => ?_⟩
    have hq := wv_at l i hi
    refine ⟨?_, ?_⟩
    · rw [World.ownsRow.cellAt h (i * 2) (by omega)]; exact hq.1
    · rw [World.ownsRow.cellAt h (i * 2 + 1) (by omega)]; exact hq.2

def gA (g : Int) : Int := min (max g 1) 65536
theorem gA_pos (g : Int) : 1 ≤ gA g ∧ gA g ≤ 65536 := by unfold gA; omega
set_option maxRecDepth 100000 in
theorem lnew_any (w0 : World) (g : Int) (w : World) (k0 : w0.heap.size ≤ w.heap.size) : Calls Try.prog 7 #[.int .i64 g] w fun e w' => ∃ a T, e = .returned (.pointer (some ⟨a, 0, none⟩)) ∧ LX w0 w' a T ⟨[], gA g, 0⟩ ∧ Kp w w' ∧ (∀ t ∈ T, w.heap.size ≤ t) := by
  have hmin := @imin Try.prog
  have hmax := @imax Try.prog
  obtain ⟨n, hn⟩ : ∃ n : Int, n = gA g := ⟨_, rfl⟩
  have HN : Hid (n = min (max g 1) 65536) := hn
  rw [← hn]
  clear hn
  go_enter Try.func7, Try.ntmps7
  go_wp2
  go_ret
  refine ⟨w.heap.size, [w.heap.size], rfl, ⟨.slice none 0 0, rfl, ?_, k0, ⟨rfl, .inl ⟨rfl, rfl⟩⟩, by simp [Value.ownBlock], by simp; omega⟩, (Kp.refl w).alloc _, fun t ht => by simp at ht; omega⟩
  rw [HN.out]
  exact new_obj _ _ _

set_option maxRecDepth 100000 in
theorem llen_any {w0 w : World} {a : Nat} {T : List Nat} {S : LS} (h : LX w0 w a T S) (hl : S.L.length ≤ 1000) : Calls Try.prog 19 #[.pointer (some ⟨a, 0, none⟩)] w fun e w' => e = .returned (.int .i64 S.L.length) ∧ Kp w w' := by
  obtain ⟨v, rfl, h1, h2, h3, h4, h5⟩ := h
  have c0 := cell_of h1 0
  obtain ⟨p, g, cap, rfl, hp, hle, hcp, hc⟩ := h3.cells
  obtain ⟨n, hn⟩ : ∃ n, n = S.L.length := ⟨_, rfl⟩
  rw [← hn] at c0 hle hl ⊢
  have c1 : w.cell? ⟨a, 0, none⟩ = some (.slice p n cap) := c0
  clear c0 h1 h3 h4 hn hp hc
  go_enter Try.func19, Try.ntmps19
  go_wp2
  go_ret
  exact ⟨rfl, Kp.refl w⟩
set_option maxRecDepth 100000 in
theorem lhead_any {w0 w : World} {a : Nat} {T : List Nat} {S : LS} (h : LX w0 w a T S) : Calls Try.prog 21 #[.pointer (some ⟨a, 0, none⟩)] w fun e w' => e = .returned (.int .i64 S.h) ∧ Kp w w' := by
  obtain ⟨v, rfl, h1, h2, h3, h4, h5⟩ := h
  have c2 : w.cell? ⟨a, 2, none⟩ = some (.int .i64 S.h) := cell_of h1 2
  clear h1 h3 h4
  go_enter Try.func21, Try.ntmps21
  go_wp2
  go_ret
  exact ⟨rfl, Kp.refl w⟩

/-! ### find -/
/-- where the key stands first. -/
def Fi (l : List Wt) (b : Int) (z : Int) : Prop := (z = -1 ∧ ∀ x ∈ l, x.k ≠ b) ∨ ∃ A y B, l = A ++ y :: B ∧ z = (A.length : Int) ∧ y.k = b ∧ ∀ x ∈ A, x.k ≠ b
set_option maxRecDepth 100000 in
theorem fclo_any (x : Wt) (c : Int) (bb : Nat) (w : World) (hc : w.cell? ⟨bb, 0, none⟩ = some (.int .i64 c)) :
    Calls Try.prog 30 #[.agg #[.int .i64 x.k, .int .i64 x.n], .pointer (some ⟨bb, 0, none⟩)] w fun e w' => e = .returned (.bool (x.k == c)) ∧ Kp w w' := by
  obtain ⟨k, n⟩ := x
  simp only
  have k0 : Kp w (w.alloc (.cells #[.int .i64 k, .int .i64 n] 53)) := (Kp.refl w).alloc _
  have c1 := k0.held hc
  go_enter Try.func30, Try.ntmps30
  go_wp2
  go_ret
  exact ⟨rfl, k0⟩
theorem enterF : ∀ args w, (callFunc 30 args).run Try.prog w = .ok (.enter 30 args) w := enters_of Try.func30 (by kernel_rfl) rfl
set_option maxRecDepth 100000 in
set_option maxHeartbeats 2000000 in
theorem index_any (p : Option Addr) (g cap : Nat) (l : List Wt) (c : Int) (bb : Nat) (w : World) (hp : 0 < l.length → p = some ⟨g, 0, none⟩) (hlen : l.length ≤ 1000)
    (hc : ∀ i, i < l.length → w.cell? ⟨g, i * 2, none⟩ = some (.int .i64 (l.getD i wz).k) ∧ w.cell? ⟨g, i * 2 + 1, none⟩ = some (.int .i64 (l.getD i wz).n)) (hb : w.cell? ⟨bb, 0, none⟩ = some (.int .i64 c)) :
    Calls Try.prog 29 #[.slice p l.length cap, .func (.func 30) #[] #[.pointer (some ⟨bb, 0, none⟩)]] w fun e w' => ∃ z, e = .returned (.int .i64 z) ∧ Fi l c z ∧ Kp w w' := by
  obtain ⟨n, hn⟩ : ∃ n, n = l.length := ⟨_, rfl⟩
  rw [← hn] at hp hlen hc ⊢
  have HN : Hid (n = l.length) := hn
  have HC : Hid (∀ i, i < n → w.cell? ⟨g, i * 2, none⟩ = some (.int .i64 (l.getD i wz).k) ∧ w.cell? ⟨g, i * 2 + 1, none⟩ = some (.int .i64 (l.getD i wz).n)) := hc
  have HP : Hid (0 < n → p = some ⟨g, 0, none⟩) := hp
  clear hn hc hp
  go_enter Try.func29, Try.ntmps29
  go_wp2
  go_loopw [5, 8] (fun _ q wr => ∃ i : Nat, q = .int .i64 i ∧ i ≤ n ∧ Hid (∀ x ∈ l.take i, x.k ≠ c) ∧ Kp w wr) (fun _ q _ => n - (intOf q).toNat)
  case atStart => exact ⟨0, rfl, by omega, (by simp : ∀ x ∈ l.take 0, x.k ≠ c), Kp.refl w⟩
  case round =>
    obtain ⟨i, rfl, hi, HI, kr⟩ := hrel
    by_cases hin : i < n
    · obtain rfl := HP.out (by omega)
      obtain ⟨d0, d1⟩ := HC.out i hin
      have d0 := kr.held d0
      have d1 := kr.held d1
      have hil : i < l.length := by have := HN.out; omega
      obtain ⟨y, hy⟩ : ∃ y, y = l.getD i wz := ⟨_, rfl⟩
      rw [← hy] at d0 d1
      have HY : Hid (y = l.getD i wz) := hy
      have hi3 : (i : Int) < (n : Int) := by omega
      have hF := fclo_any y c bb wr (kr.held hb)
      clear hy
      by_cases hyb : y.k = c
      · have hd2 : (y.k == c) = true := by simp [hyb]
        rw [hd2] at hF
        have HYB := hid hyb
        clear hyb hd2
        go_wp2_with fail
        refine hF.mono ?_; rintro e w1 ⟨rfl, k1⟩
        go_wp2
        go_ret
        refine ⟨_, rfl, .inr ⟨l.take i, l.getD i wz, l.drop (i + 1), wt_at hil, ?_, by rw [← HY.out]; exact HYB.out, HI.out⟩, kr.trans k1⟩
        rw [List.length_take, Nat.min_eq_left (by omega)]
      · have hd2 : (y.k == c) = false := by simp [hyb]
        rw [hd2] at hF
        have HI2 : Hid (∀ x ∈ l.take (i + 1), x.k ≠ c) := by
          show ∀ x ∈ l.take (i + 1), x.k ≠ c
          intro x hx
          rw [take_wt hil] at hx
          rcases List.mem_append.1 hx with hx | hx
          · exact HI.out x hx
          · simp at hx
            rw [hx]
            show (l.getD i wz).k ≠ c
            rw [← HY.out]; exact hyb
        go_wp2_with fail
        refine hF.mono ?_; rintro e w1 ⟨rfl, k1⟩
        have k2 := kr.trans k1
        clear hF k1
        go_wp2
        go_roundw
        case rel => exact ⟨i + 1, by go_num, by omega, HI2, k2⟩
        case measure => simp [intOf]; omega
    · obtain rfl : i = n := by omega
      go_wp2
      go_ret
      exact ⟨_, rfl, .inl ⟨rfl, fun x hx => HI.out x (by rw [List.take_of_length_le (by have := HN.out; omega)]; exact hx)⟩, kr⟩
set_option maxRecDepth 100000 in
theorem find_any {w0 w : World} {a : Nat} {T : List Nat} {S : LS} (h : LX w0 w a T S) (hl : S.L.length ≤ 1000) (b : Int) : Calls Try.prog 25 #[.pointer (some ⟨a, 0, none⟩), .int .i64 b] w fun e w' => ∃ z, e = .returned (.tuple #[.int .i64 z, .bool (decide (0 ≤ z))]) ∧ Fi S.L b z ∧ Kp w w' := by
  obtain ⟨v, rfl, h1, h2, h3, h4, h5⟩ := h
  obtain ⟨w1, hw1⟩ : ∃ w1, w1 = w.alloc (.cells #[.int .i64 b] 3) := ⟨_, rfl⟩
  have k1 : Kp w w1 := by rw [hw1]; exact (Kp.refl w).alloc _
  have cb : w1.cell? ⟨w.heap.size, 0, none⟩ = some (.int .i64 b) := by rw [hw1, World.cell?_alloc_at _ _ _ _ rfl]; rfl
  obtain ⟨p, g, cap, rfl, hp, hle, hcp, hc⟩ := h3.cells
  have c0 : w1.cell? ⟨a, 0, none⟩ = some (.slice p S.L.length cap) := k1.held (cell_of h1 0)
  have hI := index_any p g cap S.L b w.heap.size w1 (fun h => (hp h).1) hl (fun i hi => ⟨k1.held (hc i hi).1, k1.held (hc i hi).2⟩) cb
  have HW := hid hw1
  have HK := hid k1
  rw [hw1] at c0 hI
  have hmf : ∀ (fn : Fn) (first cap : Array Value) (w : World), (Instr.makeFunc fn first cap).run Try.prog w = .ok (.func fn first cap) w := fun _ _ _ _ => rfl
  clear h1 h3 h4 hp hc hw1 k1 cb hle hcp
  go_enter Try.func25, Try.ntmps25
  go_wp2_with fail
  refine hI.mono ?_; rintro e w2 ⟨z, rfl, hz, k2⟩
  rw [← HW.out] at k2
  have HZ := hid (And.intro hz (HK.out.trans k2))
  clear hI hz k2
  go_wp2
  go_ret2
  exact ⟨z, rfl, HZ.out.1, HZ.out.2⟩

end Go.Proofs.Ytcmomebjkbhboaa
