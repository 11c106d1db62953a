/-
  The document's lift in memory (RL, RX), and contracts of its New, Find, Add. Conditions: that the object lies in memory as RX says.
-/
import Derived.Test.YtcmomebjkbhboaaLfLaw
import Derived.Deep.RegionLaw
import Derived.Deep.RegionHeld3
namespace Go.Proofs.Ytcmomebjkbhboaa
open Go.RowKit Plain
set_option linter.unusedVariables false

theorem OwnI.spx {w w' : World} {base : Nat} {v : Value} {l : List Int} {T : List Nat} (h : OwnI w base v l) (k : Sp T w w') (hT : ∀ g, v.ownBlock = some g → g ∉ T) : OwnI w' base v l := k.own h hT
theorem OwnI.lt {w : World} {base : Nat} {v : Value} {l : List Int} (h : OwnI w base v l) : ∀ g, v.ownBlock = some g → base ≤ g ∧ g < w.heap.size := fun g hg => World.ownsRow.lt h g hg
theorem OwnI.nil (w : World) (base : Nat) : OwnI w base (.slice none 0 0) [] := ⟨rfl, .inl ⟨rfl, rfl⟩⟩
theorem OwnI.slc {w : World} {base : Nat} {v : Value} {l : List Int} (h : OwnI w base v l) : ∃ p n c, v = .slice p n c := by
  obtain ⟨a, g, cap, rfl, _⟩ := h.ints
  exact ⟨_, _, _, rfl⟩
/-- the document's lift, its lists any numbers. -/
def RL (w0 w : World) (a : Nat) (T : List Nat) (g h : Int) (lk lw : List Int) : Prop := ∃ vk vw, T = a :: (vk.ownBlock.toList ++ vw.ownBlock.toList) ∧ w.heap[a]? = some (.cells #[.int .i64 g, .int .i64 h, vk, vw] 51 (0, 0)) ∧ w0.heap.size ≤ a ∧ OwnI w w0.heap.size vk lk ∧ OwnI w w0.heap.size vw lw ∧ vk.ownBlock ≠ some a ∧ vw.ownBlock ≠ some a ∧ (∀ g, vk.ownBlock = some g → vw.ownBlock ≠ some g) ∧ w0.heap.size ≤ w.heap.size
def RX (w0 w : World) (a : Nat) (T : List Nat) (S : LS) : Prop := RL w0 w a T S.g S.h (S.L.map Wt.k) (S.L.map Wt.n)
theorem RL.low {w0 w : World} {a : Nat} {T : List Nat} {g h : Int} {lk lw : List Int} (H : RL w0 w a T g h lk lw) : ∀ t ∈ T, t < w.heap.size ∧ w0.heap.size ≤ t := by
  obtain ⟨vk, vw, rfl, h1, h2, h3, h4, _⟩ := H
  intro t ht
  rcases List.mem_cons.1 ht with rfl | ht
  · exact ⟨heap_lt h1, h2⟩
  · rcases List.mem_append.1 ht with ht | ht
    · have := h3.lt t (by simpa using ht); omega
    · have := h4.lt t (by simpa using ht); omega
theorem RL.sp {w0 w w' : World} {a : Nat} {T T' : List Nat} {g h : Int} {lk lw : List Int} (H : RL w0 w a T g h lk lw) (k : Sp T' w w') (hd : ∀ t ∈ T, t ∉ T') : RL w0 w' a T g h lk lw := by
  obtain ⟨vk, vw, rfl, h1, h2, h3, h4, h5, h6, h7, h8⟩ := H
  exact ⟨vk, vw, rfl, (k.block a (heap_lt h1) (hd a (by simp))).trans h1, h2, h3.spx k (fun g hg => hd g (by simp [hg])), h4.spx k (fun g hg => hd g (by simp [hg])), h5, h6, h7, Nat.le_trans h8 k.size⟩
theorem RL.kept {w0 w w' : World} {a : Nat} {T : List Nat} {g h : Int} {lk lw : List Int} (H : RL w0 w a T g h lk lw) (k : Kp w w') : RL w0 w' a T g h lk lw := H.sp (k.sp []) (fun _ _ h => by cases h)
theorem OL.rx : OL RX := ⟨fun h t ht => (RL.low h t ht).1, fun h t ht => (RL.low h t ht).2, fun h k hd => RL.sp h k hd⟩
theorem RX.kept {w0 w w' : World} {a : Nat} {T : List Nat} {S : LS} (h : RX w0 w a T S) (k : Kp w w') : RX w0 w' a T S := RL.kept h k
/-- the object's cells. -/
theorem RL.cells {w0 w : World} {a : Nat} {T : List Nat} {g h : Int} {lk lw : List Int} (H : RL w0 w a T g h lk lw) : ∃ pk gk ck pw gw cw, (0 < lk.length → pk = some ⟨gk, 0, none⟩) ∧ (0 < lw.length → pw = some ⟨gw, 0, none⟩) ∧ lk.length ≤ ck ∧ ck ≤ 9223372036854775807 ∧ lw.length ≤ cw ∧ cw ≤ 9223372036854775807 ∧ w.cell? ⟨a, 0, none⟩ = some (.int .i64 g) ∧ w.cell? ⟨a, 1, none⟩ = some (.int .i64 h) ∧ w.cell? ⟨a, 2, none⟩ = some (.slice pk lk.length ck) ∧ w.cell? ⟨a, 3, none⟩ = some (.slice pw lw.length cw) ∧ (∀ j, w.frozen? ⟨a, j, none⟩ = false) ∧ (∀ i, i < lk.length → w.cell? ⟨gk, i, none⟩ = some (.int .i64 (lk.getD i 0))) ∧ ∀ i, i < lw.length → w.cell? ⟨gw, i, none⟩ = some (.int .i64 (lw.getD i 0)) := by
  obtain ⟨vk, vw, rfl, h1, h2, h3, h4, h5, h6, h7, h8⟩ := H
  obtain ⟨pk, gk, ck, rfl, k1, k2, k3, k4⟩ := h3.ints
  obtain ⟨pw, gw, cw, rfl, q1, q2, q3, q4⟩ := h4.ints
  exact ⟨pk, gk, ck, pw, gw, cw, k3, q3, k1, k2, q1, q2, cell_of h1 0, cell_of h1 1, cell_of h1 2, cell_of h1 3, frozen_of h1, k4, q4⟩
set_option maxRecDepth 100000 in
theorem rnew_any (w0 : World) (m : Int) (w : World) (k0 : w0.heap.size ≤ w.heap.size) : Calls Try.prog 8 #[.int .i64 m] w fun e w' => ∃ a T, e = .returned (.pointer (some ⟨a, 0, none⟩)) ∧ RX w0 w' a T ⟨[], gA m, 0⟩ ∧ Kp w w' ∧ (∀ t ∈ T, w.heap.size ≤ t) := by
  have hend : ∀ n : Int, n = gA m → RX w0 (w.alloc (.cells #[.int .i64 n, .int .i64 0, .slice none 0 0, .slice none 0 0] 51)) w.heap.size [w.heap.size] ⟨[], gA m, 0⟩ := fun n hn => by
    refine ⟨.slice none 0 0, .slice none 0 0, rfl, ?_, k0, OwnI.nil _ _, OwnI.nil _ _, by simp [Value.ownBlock], by simp [Value.ownBlock], by simp [Value.ownBlock], by simp; omega⟩
    rw [hn]
    exact new_obj w _ _
  by_cases h1 : m < 1
  · go_enter Try.func8, Try.ntmps8
    go_wp2
    go_ret
    first
      | exact ⟨w.heap.size, [w.heap.size], rfl, hend 1 (by unfold gA; omega), (Kp.refl w).alloc _, fun t ht => by simp at ht; omega⟩
      | exact ⟨w.heap.size, rfl, [w.heap.size], hend 1 (by unfold gA; omega), (Kp.refl w).alloc _, fun t ht => by simp at ht; omega⟩
  · by_cases h2 : 65536 < m
    · go_enter Try.func8, Try.ntmps8
      go_wp2
      go_ret
      first
      | exact ⟨w.heap.size, [w.heap.size], rfl, hend 65536 (by unfold gA; omega), (Kp.refl w).alloc _, fun t ht => by simp at ht; omega⟩
      | exact ⟨w.heap.size, rfl, [w.heap.size], hend 65536 (by unfold gA; omega), (Kp.refl w).alloc _, fun t ht => by simp at ht; omega⟩
    · go_enter Try.func8, Try.ntmps8
      go_wp2
      go_ret
      first
      | exact ⟨w.heap.size, [w.heap.size], rfl, hend m (by unfold gA; omega), (Kp.refl w).alloc _, fun t ht => by simp at ht; omega⟩
      | exact ⟨w.heap.size, rfl, [w.heap.size], hend m (by unfold gA; omega), (Kp.refl w).alloc _, fun t ht => by simp at ht; omega⟩
theorem map_k_at (l : List Wt) (i : Nat) (h : i < l.length) : (l.map Wt.k).getD i 0 = (l.getD i wz).k := by simp [List.getD_eq_getElem?_getD, h]
theorem map_n_at (l : List Wt) (i : Nat) (h : i < l.length) : (l.map Wt.n).getD i 0 = (l.getD i wz).n := by simp [List.getD_eq_getElem?_getD, h]
set_option maxRecDepth 100000 in
set_option maxHeartbeats 2000000 in
theorem rfind_any {w0 w : World} {a : Nat} {T : List Nat} {S : LS} (h : RX w0 w a T S) (hl : S.L.length ≤ 1000) (b : Int) : Calls Try.prog 17 #[.pointer (some ⟨a, 0, none⟩), .int .i64 b] w fun e w' => ∃ z, e = .returned (.int .i64 z) ∧ Fi S.L b z ∧ w' = w := by
  obtain ⟨pk, gk, ck, pw, gw, cw, hp, _, hle, hcp, _, _, _, _, c1, _, _, hc, _⟩ := RL.cells h
  obtain ⟨l, hL⟩ : ∃ l, l = S.L := ⟨_, rfl⟩
  rw [← hL] at hp hle c1 hc hl ⊢
  rw [List.length_map] at hp hle c1 hc
  obtain ⟨n, hn⟩ : ∃ n, n = l.length := ⟨_, rfl⟩
  rw [← hn] at hp hle c1 hc hl
  have HN : Hid (n = l.length) := hn
  have HC : Hid (∀ i, i < n → w.cell? ⟨gk, i, none⟩ = some (.int .i64 (l.getD i wz).k)) := fun i hi => by rw [hc i hi, map_k_at l i (by omega)]
  have HP : Hid (0 < n → pk = some ⟨gk, 0, none⟩) := hp
  clear h hL hn hc hp
  go_enter Try.func17, Try.ntmps17
  go_wp2
  go_loopw [5] (fun q wr => ∃ i : Nat, q = .int .i64 i ∧ i ≤ n ∧ Hid (∀ x ∈ l.take i, x.k ≠ b) ∧ wr = w) (fun q _ => n - (intOf q).toNat)
  case atStart => exact ⟨0, rfl, by omega, (by simp : ∀ x ∈ l.take 0, x.k ≠ b), rfl⟩
  case round =>
    obtain ⟨i, rfl, hi, HI, hw⟩ := hrel
    rw [hw]
    clear hw
    by_cases hin : i < n
    · obtain rfl := HP.out (by omega)
      have d0 := HC.out i hin
      have hil : i < l.length := by have := HN.out; omega
      obtain ⟨y, hy⟩ : ∃ y, y = (l.getD i wz).k := ⟨_, rfl⟩
      rw [← hy] at d0
      have HY : Hid (y = (l.getD i wz).k) := hy
      have hi3 : (i : Int) < (n : Int) := by omega
      clear hy
      by_cases hyb : y = b
      · have hd2 : (y == b) = true := by simp [hyb]
        have HYB := hid hyb
        clear hyb
        go_wp2
        go_ret
        refine ⟨_, rfl, .inr ⟨l.take i, l.getD i wz, l.drop (i + 1), wt_at hil, ?_, by rw [← HY.out]; exact HYB.out, HI.out⟩, rfl⟩
        rw [List.length_take, Nat.min_eq_left (by omega)]
      · have hd2 : (y == b) = false := by simp [hyb]
        have HI2 : Hid (∀ x ∈ l.take (i + 1), x.k ≠ b) := by
          show ∀ x ∈ l.take (i + 1), x.k ≠ b
          intro x hx
          rw [take_wt hil] at hx
          rcases List.mem_append.1 hx with hx | hx
          · exact HI.out x hx
          · simp at hx
            rw [hx]
            show (l.getD i wz).k ≠ b
            rw [← HY.out]; exact hyb
        go_wp2
        go_roundw
        case rel => exact ⟨i + 1, by go_num, by omega, HI2, trivial⟩
        case measure => simp [intOf]; omega
    · obtain rfl : i = n := by omega
      go_wp2
      go_ret
      exact ⟨_, rfl, .inl ⟨rfl, fun x hx => HI.out x (by rw [List.take_of_length_le (by have := HN.out; omega)]; exact hx)⟩, rfl⟩

/-! ### Add -/
/-- another row of keys laid into the object. -/
theorem RL.setk {w0 w w2 : World} {a : Nat} {T : List Nat} {g h : Int} {lk lw lk' : List Int} (H : RL w0 w a T g h lk lw) {v v' : Value} (hv : w.cell? ⟨a, 2, none⟩ = some v) (k : Sp v.ownBlock.toList w w2) (ho : OwnI w2 w0.heap.size v' lk') (hn : v'.ownBlock = v.ownBlock ∨ (∀ N, v'.ownBlock = some N → w.heap.size ≤ N)) :
    w2.heap[a]? = w.heap[a]? ∧ ∃ T', RL w0 (w2.setCell ⟨a, 2, none⟩ v') a T' g h lk' lw ∧ Sp T w (w2.setCell ⟨a, 2, none⟩ v') ∧ Nw w T T' := by
  obtain ⟨vk, vw, rfl, h1, h2, h3, h4, h5, h6, h7, h8⟩ := H
  have c0 := cell_of h1 2
  rw [hv] at c0
  obtain rfl : v = vk := by simpa using c0
  have ha := heap_lt h1
  have h1' : w2.heap[a]? = _ := (k.block a ha (fun e => h5 (by simpa using e))).trans h1
  have hv' : v'.ownBlock ≠ some a := by
    rcases hn with hn | hn
    · rw [hn]; exact h5
    · intro e; have := hn a e; omega
  have k2 : Sp [a] w2 (w2.setCell ⟨a, 2, none⟩ v') := (Sp.refl _ _).set a _ (by simp) _
  have hw2 : OwnI w2 w0.heap.size vw lw := h4.spx k (fun q hq e => h7 q (by simpa using e) hq)
  have h7' : ∀ q, v'.ownBlock = some q → vw.ownBlock ≠ some q := fun q hq => by
    rcases hn with hn | hn
    · exact h7 q (by rw [← hn]; exact hq)
    · intro e; have := hn q hq; have := (h4.lt q e).2; omega
  refine ⟨h1'.trans h1.symm, _, ⟨v', vw, rfl, heap_set h1' 2 _, h2, ho.spx k2 (fun q hq e => hv' (by simp at e; rw [← e]; exact hq)), hw2.spx k2 (fun q hq e => h6 (by simp at e; rw [← e]; exact hq)), hv', h6, h7', Nat.le_trans h8 (Nat.le_trans k.size k2.size)⟩, ?_, ?_⟩
  · exact (k.mono (fun t ht => List.mem_cons_of_mem _ (List.mem_append_left _ ht))).trans (k2.mono (fun t ht => by simp at ht; subst ht; simp))
  · intro t ht
    rcases List.mem_cons.1 ht with rfl | ht
    · exact .inl (by simp)
    · rcases List.mem_append.1 ht with ht | ht
      · rcases hn with hn | hn
        · rw [hn] at ht; exact .inl (List.mem_cons_of_mem _ (List.mem_append_left _ ht))
        · exact .inr (hn t (by simpa using ht))
      · exact .inl (List.mem_cons_of_mem _ (List.mem_append_right _ ht))
theorem RL.setw {w0 w w2 : World} {a : Nat} {T : List Nat} {g h : Int} {lk lw lw' : List Int} (H : RL w0 w a T g h lk lw) {v v' : Value} (hv : w.cell? ⟨a, 3, none⟩ = some v) (k : Sp v.ownBlock.toList w w2) (ho : OwnI w2 w0.heap.size v' lw') (hn : v'.ownBlock = v.ownBlock ∨ (∀ N, v'.ownBlock = some N → w.heap.size ≤ N)) :
    w2.heap[a]? = w.heap[a]? ∧ ∃ T', RL w0 (w2.setCell ⟨a, 3, none⟩ v') a T' g h lk lw' ∧ Sp T w (w2.setCell ⟨a, 3, none⟩ v') ∧ Nw w T T' := by
  obtain ⟨vk, vw, rfl, h1, h2, h3, h4, h5, h6, h7, h8⟩ := H
  have c0 := cell_of h1 3
  rw [hv] at c0
  obtain rfl : v = vw := by simpa using c0
  have ha := heap_lt h1
  have h1' : w2.heap[a]? = _ := (k.block a ha (fun e => h6 (by simpa using e))).trans h1
  have hv' : v'.ownBlock ≠ some a := by
    rcases hn with hn | hn
    · rw [hn]; exact h6
    · intro e; have := hn a e; omega
  have k2 : Sp [a] w2 (w2.setCell ⟨a, 3, none⟩ v') := (Sp.refl _ _).set a _ (by simp) _
  have hw2 : OwnI w2 w0.heap.size vk lk := h3.spx k (fun q hq e => h7 q hq (by simpa using e))
  have h7' : ∀ q, vk.ownBlock = some q → v'.ownBlock ≠ some q := fun q hq => by
    rcases hn with hn | hn
    · rw [hn]; exact h7 q hq
    · intro e; have := hn q e; have := (h3.lt q hq).2; omega
  refine ⟨h1'.trans h1.symm, _, ⟨vk, v', rfl, heap_set h1' 3 _, h2, hw2.spx k2 (fun q hq e => h5 (by simp at e; rw [← e]; exact hq)), ho.spx k2 (fun q hq e => hv' (by simp at e; rw [← e]; exact hq)), h5, hv', h7', Nat.le_trans h8 (Nat.le_trans k.size k2.size)⟩, ?_, ?_⟩
  · exact (k.mono (fun t ht => List.mem_cons_of_mem _ (List.mem_append_right _ ht))).trans (k2.mono (fun t ht => by simp at ht; subst ht; simp))
  · intro t ht
    rcases List.mem_cons.1 ht with rfl | ht
    · exact .inl (by simp)
    · rcases List.mem_append.1 ht with ht | ht
      · exact .inl (List.mem_cons_of_mem _ (List.mem_append_left _ ht))
      · rcases hn with hn | hn
        · rw [hn] at ht; exact .inl (List.mem_cons_of_mem _ (List.mem_append_right _ ht))
        · exact .inr (hn t (by simpa using ht))
theorem RL.obj {w0 w : World} {a : Nat} {T : List Nat} {g h : Int} {lk lw : List Int} (H : RL w0 w a T g h lk lw) : ∃ pk ck pw cw, w.heap[a]? = some (.cells #[.int .i64 g, .int .i64 h, .slice pk lk.length ck, .slice pw lw.length cw] 51 (0, 0)) ∧ OwnI w w0.heap.size (.slice pk lk.length ck) lk ∧ OwnI w w0.heap.size (.slice pw lw.length cw) lw ∧ w0.heap.size ≤ w.heap.size := by
  obtain ⟨vk, vw, rfl, h1, h2, h3, h4, h5, h6, h7, h8⟩ := H
  obtain ⟨pk, gk, ck, rfl, _⟩ := h3.ints
  obtain ⟨pw, gw, cw, rfl, _⟩ := h4.ints
  exact ⟨pk, ck, pw, cw, h1, h3, h4, h8⟩
/-- one number appended, and where the row lies then. -/
theorem wpList_append_int2 {w : World} {ops : Array Oper} {rest : List Oper} {o : Oper} {a : Act} {Q : Exit → Act → World → Prop} (hgd : o.guard = none) (s x : Operand)
    (ho : o.op = .call { callee := .builtin .append, args := #[s, x], argTypes := #[43, 43] })
    (base : Nat) (v : Value) (l : List Int) (hs : a.eval s = v) (hown : OwnI w base v l) (p : Int) (k : Nat) (hx : a.eval x = .slice (some ⟨k, 0, none⟩) 1 1) (hc : w.cell? ⟨k, 0, none⟩ = some (.int .i64 p))
    (hlen : l.length + 1 ≤ 1099511627776) (hbase : base ≤ w.heap.size)
    (h : ∀ v' w', OwnI w' base v' (l ++ [p]) → w.grownBy w' v.ownBlock → (v'.ownBlock = v.ownBlock ∨ v'.ownBlock = some w.heap.size) → wpList Try.prog ops Q rest (a.put o.dst v') w') : wpList Try.prog ops Q (o :: rest) a w := by
  obtain ⟨i0, hi, hz0, hz1, hz2⟩ := info_parts info_int
  refine wpList_append_own_at w hgd s x 43 ho base 3 i0 (.int .i64 0) 1 8 Try.underlying43 hi hz0 hz1 hz2 rfl (by decide) v l.length (nv l) hs hown ⟨k, 0, none⟩ 1 1 [.int .i64 p] hx rfl ?_ (by simp [Value.oneCell']) (by unfold maxLen; omega) (by omega) hbase (fun v' w' h1 h2 _ h3 => h v' w' ?_ h2 h3)
  · intro j u hj
    match j, hj with
    | 0, hj => simp at hj; subst hj; simpa [Addr.add] using hc
  · unfold OwnI nv
    rw [List.length_append, List.map_append]
    exact h1

end Go.Proofs.Ytcmomebjkbhboaa
