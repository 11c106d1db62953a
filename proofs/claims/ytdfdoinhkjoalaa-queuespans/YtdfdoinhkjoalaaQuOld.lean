/-
  Contracts of cmp.Compare, of Oldest's closure, of slices.MinFunc and of Oldest. Conditions: that the object lies in memory as QX says.
-/
import Derived.Test.YtdfdoinhkjoalaaQuGet
namespace Go.Proofs.Ytdfdoinhkjoalaa
open Go.RowKit Plain
set_option linter.unusedVariables false

def cmpI (x y : Int) : Int := if x < y then -1 else if y < x then 1 else 0
set_option maxRecDepth 100000 in
theorem isnan_any (x : Int) (w : World) : Calls Try.prog 48 #[.int .i64 x] w fun e w' => e = .returned (.bool false) ∧ w' = w := by
  go_enter Try.func48, Try.ntmps48
  go_wp2
  go_ret
  exact ⟨by simp, rfl⟩
set_option maxRecDepth 100000 in
theorem cmp_any (x y : Int) (w : World) : Calls Try.prog 39 #[.int .i64 x, .int .i64 y] w fun e w' => e = .returned (.int .i64 (cmpI x y)) ∧ w' = w := by
  have h1 := isnan_any x w
  have h2 := isnan_any y w
  unfold cmpI
  by_cases q1 : x < y
  · rw [if_pos q1]
    go_enter Try.func39, Try.ntmps39
    go_wp2_with (first | (go_at_call 48; refine h1.mono ?_; rintro e w1 ⟨rfl, rfl⟩) | (go_at_call 48; refine h2.mono ?_; rintro e w1 ⟨rfl, rfl⟩))
    go_ret
    exact ⟨rfl, rfl⟩
  · rw [if_neg q1]
    by_cases q2 : y < x
    · rw [if_pos q2]
      go_enter Try.func39, Try.ntmps39
      go_wp2_with (first | (go_at_call 48; refine h1.mono ?_; rintro e w1 ⟨rfl, rfl⟩) | (go_at_call 48; refine h2.mono ?_; rintro e w1 ⟨rfl, rfl⟩))
      go_ret
      exact ⟨rfl, rfl⟩
    · rw [if_neg q2]
      go_enter Try.func39, Try.ntmps39
      go_wp2_with (first | (go_at_call 48; refine h1.mono ?_; rintro e w1 ⟨rfl, rfl⟩) | (go_at_call 48; refine h2.mono ?_; rintro e w1 ⟨rfl, rfl⟩))
      go_ret
      exact ⟨rfl, rfl⟩
set_option maxRecDepth 100000 in
theorem oclo_any (x y : It) (w : World) : Calls Try.prog 38 #[itV x, itV y] w fun e w' => e = .returned (.int .i64 (cmpI x.g y.g)) ∧ Kp w w' := by
  obtain ⟨xb, xd, xg⟩ := x
  obtain ⟨yb, yd, yg⟩ := y
  unfold itV
  simp only
  have hC := cmp_any xg yg ((w.alloc (.cells #[.int .i64 xb, .string xd, .int .i64 xg] 31)).alloc (.cells #[.int .i64 yb, .string yd, .int .i64 yg] 31))
  go_enter Try.func38, Try.ntmps38
  go_wp2_with fail
  refine hC.mono ?_; rintro e w1 ⟨rfl, rfl⟩
  go_wp2
  go_ret
  exact ⟨rfl, ((Kp.refl w).alloc _).alloc _⟩

/-- the oldest of a list. -/
def olS (m y : It) : It := if y.g < m.g then y else m
def olI : List It → It
  | [] => iz
  | x :: l => l.foldl olS x
theorem ol_one (l : List It) (h : 0 < l.length) : olI (l.take 1) = l.getD 0 iz := by
  cases l with
  | nil => simp at h
  | cons x l => rfl
theorem ol_next (l : List It) (i : Nat) (h0 : 0 < i) (h : i < l.length) : olI (l.take (i + 1)) = olS (olI (l.take i)) (l.getD i iz) := by
  cases l with
  | nil => simp at h
  | cons x l =>
    obtain ⟨j, rfl⟩ : ∃ j, i = j + 1 := ⟨i - 1, by omega⟩
    have hj : j < l.length := by simpa using h
    rw [List.take_succ_cons, List.take_succ_cons]
    show (l.take (j + 1)).foldl olS x = olS ((l.take j).foldl olS x) (l.getD j iz)
    rw [List.take_add_one, List.getElem?_eq_getElem hj, List.foldl_append, List.getD_eq_getElem?_getD, List.getElem?_eq_getElem hj]
    rfl
theorem ol_fold : ∀ (l : List It) (m : It), (l.foldl olS m = m ∨ l.foldl olS m ∈ l) ∧ (l.foldl olS m).g ≤ m.g ∧ ∀ y ∈ l, (l.foldl olS m).g ≤ y.g
  | [], m => ⟨.inl rfl, Int.le_refl _, by simp⟩
  | y :: l, m => by
    obtain ⟨h1, h2, h3⟩ := ol_fold l (olS m y)
    rw [List.foldl_cons]
    have q : (olS m y = m ∧ m.g ≤ y.g) ∨ (olS m y = y ∧ y.g < m.g) := by
      unfold olS
      by_cases h : y.g < m.g
      · rw [if_pos h]; exact .inr ⟨rfl, h⟩
      · rw [if_neg h]; exact .inl ⟨rfl, by omega⟩
    rcases q with ⟨q, r⟩ | ⟨q, r⟩ <;> rw [q] at h1 h2 h3 ⊢
    · refine ⟨h1.elim .inl (fun h => .inr (List.mem_cons_of_mem _ h)), h2, fun z hz => ?_⟩
      rcases List.mem_cons.1 hz with rfl | hz
      · omega
      · exact h3 z hz
    · refine ⟨h1.elim (fun h => .inr (by rw [h]; simp)) (fun h => .inr (List.mem_cons_of_mem _ h)), by omega, fun z hz => ?_⟩
      rcases List.mem_cons.1 hz with rfl | hz
      · exact h2
      · exact h3 z hz
theorem ol_mem {l : List It} (h : 0 < l.length) : olI l ∈ l ∧ ∀ y ∈ l, (olI l).g ≤ y.g := by
  cases l with
  | nil => simp at h
  | cons x l =>
    obtain ⟨h1, h2, h3⟩ := ol_fold l x
    refine ⟨?_, fun y hy => ?_⟩
    · show l.foldl olS x ∈ x :: l
      rcases h1 with h1 | h1
      · rw [h1]; simp
      · exact List.mem_cons_of_mem _ h1
    · rcases List.mem_cons.1 hy with rfl | hy
      · exact h2
      · exact h3 y hy
theorem enterO : ∀ args w, (callFunc 38 args).run Try.prog w = .ok (.enter 38 args) w := enters_of Try.func38 (by kernel_rfl) rfl

set_option maxRecDepth 100000 in
set_option maxHeartbeats 4000000 in
theorem minf_any (g cap : Nat) (l : List It) (w : World) (h0 : 0 < l.length) (hl : l.length ≤ 1000) (hA : ItAt w (some ⟨g, 0, none⟩) g 0 cap l) : Calls Try.prog 37 #[.slice (some ⟨g, 0, none⟩) l.length cap, .func (.func 38) #[] #[]] w fun e w' => e = .returned (itV (olI l)) ∧ Kp w w' := by
  have HA : Hid (ItAt w (some ⟨g, 0, none⟩) g 0 cap l) := hA
  have d0 := hA.c0 0 h0
  have d1 := hA.c1 0 h0
  have d2 := hA.c2 0 h0
  have hle := hA.le
  have hmx := hA.mx
  unfold maxLen at hmx
  obtain ⟨x0, hx0⟩ : ∃ x0, x0 = l.getD 0 iz := ⟨_, rfl⟩
  rw [← hx0] at d0 d1 d2
  simp only [Nat.zero_mul, Nat.add_zero, Nat.zero_add] at d0 d1 d2
  have HX : Hid (x0 = l.getD 0 iz) := hx0
  have e0 := ((Kp.refl w).alloc (.cells #[.int .i64 0, .string ⟨#[]⟩, .int .i64 0] 31)).held d0
  have e1 := ((Kp.refl w).alloc (.cells #[.int .i64 0, .string ⟨#[]⟩, .int .i64 0] 31)).held d1
  have e2 := ((Kp.refl w).alloc (.cells #[.int .i64 0, .string ⟨#[]⟩, .int .i64 0] 31)).held d2
  obtain ⟨n, hn⟩ : ∃ n, n = l.length := ⟨_, rfl⟩
  rw [← hn] at h0 hl hle ⊢
  have HN : Hid (n = l.length) := hn
  have k0 : Kp w ((w.alloc (.cells #[.int .i64 0, .string ⟨#[]⟩, .int .i64 0] 31)).alloc (.cells #[.int .i64 x0.b, .string x0.d, .int .i64 x0.g] 31)) := ((Kp.refl w).alloc _).alloc _
  have r5 : ((w.alloc (.cells #[.int .i64 0, .string ⟨#[]⟩, .int .i64 0] 31)).alloc (.cells #[.int .i64 x0.b, .string x0.d, .int .i64 x0.g] 31)).heap[w.heap.size + 1]? = some (.cells #[.int .i64 x0.b, .string x0.d, .int .i64 x0.g] 31 (0, 0)) := by
    have := Array.getElem?_push_size (xs := (w.alloc (.cells #[.int .i64 0, .string ⟨#[]⟩, .int .i64 0] 31)).heap) (x := Obj.cells #[.int .i64 x0.b, .string x0.d, .int .i64 x0.g] 31 (0, 0))
    rw [show (w.alloc (.cells #[.int .i64 0, .string ⟨#[]⟩, .int .i64 0] 31)).heap.size = w.heap.size + 1 by simp] at this
    exact this
  have r4 : ((w.alloc (.cells #[.int .i64 0, .string ⟨#[]⟩, .int .i64 0] 31)).alloc (.cells #[.int .i64 x0.b, .string x0.d, .int .i64 x0.g] 31)).heap[w.heap.size]? = some (.cells #[.int .i64 0, .string ⟨#[]⟩, .int .i64 0] 31 (0, 0)) := by
    have h1 : (w.alloc (.cells #[.int .i64 0, .string ⟨#[]⟩, .int .i64 0] 31)).heap[w.heap.size]? = some (.cells #[.int .i64 0, .string ⟨#[]⟩, .int .i64 0] 31 (0, 0)) := by unfold World.alloc; exact Array.getElem?_push_size
    exact (((Kp.refl (w.alloc (.cells #[.int .i64 0, .string ⟨#[]⟩, .int .i64 0] 31))).alloc (.cells #[.int .i64 x0.b, .string x0.d, .int .i64 x0.g] 31)).block w.heap.size (by simp)).trans h1
  have K0 : Hid (Kp w _ ∧ _ ∧ _) := ⟨k0, r4, r5⟩
  clear hA hx0 hn k0 r4 r5
  go_enter Try.func37, Try.ntmps37
  go_wp2
  go_loopw [6] (fun q wr => ∃ i : Nat, q = .int .i64 i ∧ 1 ≤ i ∧ i ≤ n ∧ Hid (Kp w wr ∧ wr.heap[w.heap.size]? = some (.cells #[.int .i64 0, .string ⟨#[]⟩, .int .i64 0] 31 (0, 0)) ∧ wr.heap[w.heap.size + 1]? = some (.cells #[.int .i64 (olI (l.take i)).b, .string (olI (l.take i)).d, .int .i64 (olI (l.take i)).g] 31 (0, 0)))) (fun q _ => n - (intOf q).toNat)
  case atStart =>
    refine ⟨1, rfl, by omega, by omega, ?_⟩
    have e := ol_one l (by have := HN.out; omega)
    have q := K0.out
    refine ⟨q.1, q.2.1, ?_⟩
    rw [e, ← HX.out]
    exact q.2.2
  case round =>
    clear K0 d0 d1 d2 e0 e1 e2
    obtain ⟨i, rfl, hi1, hi2, HI⟩ := hrel
    by_cases hin : i < n
    · obtain ⟨k1, r4, r5⟩ := HI.out
      have hil : i < l.length := by have := HN.out; omega
      have c0 := k1.held (HA.out.c0 i hil)
      have c1 := k1.held (HA.out.c1 i hil)
      have c2 := k1.held (HA.out.c2 i hil)
      obtain ⟨y, hy⟩ : ∃ y, y = l.getD i iz := ⟨_, rfl⟩
      obtain ⟨m, hm⟩ : ∃ m, m = olI (l.take i) := ⟨_, rfl⟩
      rw [← hy] at c0 c1 c2
      rw [← hm] at r5
      simp only [Nat.zero_add] at c0 c1 c2
      have m0 : wr.cell? ⟨w.heap.size + 1, 0, none⟩ = some (.int .i64 m.b) := cell_of r5 0
      have m1 : wr.cell? ⟨w.heap.size + 1, 1, none⟩ = some (.string m.d) := cell_of r5 1
      have m2 : wr.cell? ⟨w.heap.size + 1, 2, none⟩ = some (.int .i64 m.g) := cell_of r5 2
      have HE : Hid (olI (l.take (i + 1)) = olS m y) := by show olI (l.take (i + 1)) = _; rw [hm, hy]; exact ol_next l i (by omega) hil
      have HR : Hid (Kp w wr ∧ wr.heap[w.heap.size]? = some (.cells #[.int .i64 0, .string ⟨#[]⟩, .int .i64 0] 31 (0, 0)) ∧ wr.heap[w.heap.size + 1]? = some (.cells #[.int .i64 m.b, .string m.d, .int .i64 m.g] 31 (0, 0))) := ⟨k1, r4, r5⟩
      have hC := fun W => oclo_any y m W
      unfold itV at hC
      have hi3 : (i : Int) < (n : Int) := by omega
      have p0 := kpw_cell c0
      have p1 := kpw_cell c1
      have p2 := kpw_cell c2
      have o0 := kpw_cell m0
      have o1 := kpw_cell m1
      have o2 := kpw_cell m2
      clear hy hm HI k1 r4 r5
      go_wp2_with fail
      refine wp_region_kp (by kernel_rfl) (by kernel_rfl) ?_
      repeat (first
        | go_big_quiet_skip
        | (go_big_quiet_want; go_big_quiet_op; go_big_quiet_on)
        | (go_big_quiet_want; go_big_quiet_op; apply Exists.intro; refine ⟨fun p => ?_, ?_⟩; (focus (first | (go_at_call 38; exact kp_call (hC _)) | (go_at_fn 38; exact kp_call (hC _)))); go_big_quiet_on))
      refine wpQuiet_nil ?_
      rintro w5 ⟨p, hp⟩
      have k5 : Kp wr w5 := by rw [hp]; exact kpw_kp wr p
      have HR5 : Hid (Kp w w5 ∧ w5.heap[w.heap.size]? = some (.cells #[.int .i64 0, .string ⟨#[]⟩, .int .i64 0] 31 (0, 0)) ∧ w5.heap[w.heap.size + 1]? = some (.cells #[.int .i64 m.b, .string m.d, .int .i64 m.g] 31 (0, 0))) := by
        obtain ⟨q1, q2, q3⟩ := HR.out
        exact ⟨q1.trans k5, (k5.block _ (heap_lt q2)).trans q2, (k5.block _ (heap_lt q3)).trans q3⟩
      have c0' := k5.held c0
      have c1' := k5.held c1
      have c2' := k5.held c2
      have m0' := k5.held m0
      have m1' := k5.held m1
      have m2' := k5.held m2
      have ff := frozen_of HR5.out.2.2
      have f0 := ff 0
      have f1 := ff 1
      have f2 := ff 2
      clear hp p0 p1 p2 o0 o1 o2 c0 c1 c2 m0 m1 m2 HR k5 ff
      by_cases hg : y.g < m.g
      · have hq : cmpI y.g m.g = -1 := by unfold cmpI; rw [if_pos hg]
        have HO : Hid (olS m y = y) := by show olS m y = y; unfold olS; rw [if_pos hg]
        rw [hq]
        clear hq hg
        go_wp2
        go_roundw
        case rel =>
          refine ⟨i + 1, by go_num, by omega, by omega, ?_⟩
          obtain ⟨q1, q2, q3⟩ := HR5.out
          obtain ⟨b1, b2⟩ := box3 q3 (.int .i64 y.b) (.string y.d) (.int .i64 y.g)
          refine ⟨Sp.kp q1 b2 (fun t ht => by simp at ht; omega), (b2.block _ (heap_lt q2) (by simp)).trans q2, ?_⟩
          rw [HE.out, HO.out]
          exact b1
        case measure => simp [intOf]; omega
      · have hq : 0 ≤ cmpI y.g m.g := by unfold cmpI; rw [if_neg hg]; split <;> omega
        have HO : Hid (olS m y = m) := by show olS m y = m; unfold olS; rw [if_neg hg]
        obtain ⟨z, hz⟩ : ∃ z, z = cmpI y.g m.g := ⟨_, rfl⟩
        rw [← hz] at hq ⊢
        clear hz hg
        go_wp2
        go_roundw
        case rel =>
          refine ⟨i + 1, by go_num, by omega, by omega, ?_⟩
          rw [HE.out, HO.out]
          exact HR5
        case measure => simp [intOf]; omega
    · obtain rfl : i = n := by omega
      obtain ⟨k1, r4, r5⟩ := HI.out
      have ht : l.take i = l := List.take_of_length_le (by have := HN.out; omega)
      rw [ht] at r5
      have m0 : wr.cell? ⟨w.heap.size + 1, 0, none⟩ = some (.int .i64 (olI l).b) := cell_of r5 0
      have m1 : wr.cell? ⟨w.heap.size + 1, 1, none⟩ = some (.string (olI l).d) := cell_of r5 1
      have m2 : wr.cell? ⟨w.heap.size + 1, 2, none⟩ = some (.int .i64 (olI l).g) := cell_of r5 2
      have z0 : wr.cell? ⟨w.heap.size, 0, none⟩ = some (.int .i64 0) := cell_of r4 0
      have z1 : wr.cell? ⟨w.heap.size, 1, none⟩ = some (.string ⟨#[]⟩) := cell_of r4 1
      have z2 : wr.cell? ⟨w.heap.size, 2, none⟩ = some (.int .i64 0) := cell_of r4 2
      have ff := frozen_of r4
      have f0 := ff 0
      have f1 := ff 1
      have f2 := ff 2
      have HR : Hid (Kp w wr ∧ wr.heap[w.heap.size]? = some (.cells #[.int .i64 0, .string ⟨#[]⟩, .int .i64 0] 31 (0, 0))) := ⟨k1, r4⟩
      clear k1 r4 r5 ht HI ff
      go_wp2
      obtain ⟨b1, b2⟩ := box3 HR.out.2 (.int .i64 (olI l).b) (.string (olI l).d) (.int .i64 (olI l).g)
      refine bodyPost_ret (results_it1 rfl _ _ w.heap.size (olI l) rfl (cell_of b1 0) (cell_of b1 1) (cell_of b1 2)) rfl ?_
      exact ⟨rfl, Sp.kp HR.out.1 b2 (fun t ht => by simp at ht; omega)⟩

set_option maxRecDepth 100000 in
set_option maxHeartbeats 2000000 in
theorem qold_any {w0 w : World} {a : Nat} {T : List Nat} {S : QS} (h : QX w0 w a T S) (hl : S.L.length ≤ 1000) : Calls Try.prog 24 #[.pointer (some ⟨a, 0, none⟩)] w fun e w' => e = .returned (.tuple #[itV (olI S.L), .bool (decide (0 < S.L.length))]) ∧ Kp w w' := by
  have k0 : Kp w (w.alloc (.cells #[.int .i64 0, .string ⟨#[]⟩, .int .i64 0] 31)) := (Kp.refl w).alloc _
  have hL := qlen_any (h.kept k0) hl
  have HH : Hid (QX w0 w a T S) := h
  have r0 : (w.alloc (.cells #[.int .i64 0, .string ⟨#[]⟩, .int .i64 0] 31)).heap[w.heap.size]? = some (.cells #[.int .i64 0, .string ⟨#[]⟩, .int .i64 0] 31 (0, 0)) := by unfold World.alloc; exact Array.getElem?_push_size
  have K0 : Hid (Kp w (w.alloc (.cells #[.int .i64 0, .string ⟨#[]⟩, .int .i64 0] 31)) ∧ (w.alloc (.cells #[.int .i64 0, .string ⟨#[]⟩, .int .i64 0] 31)).heap[w.heap.size]? = some (.cells #[.int .i64 0, .string ⟨#[]⟩, .int .i64 0] 31 (0, 0))) := ⟨k0, r0⟩
  clear h k0 r0
  go_enter Try.func24, Try.ntmps24
  go_wp2_with fail
  refine hL.mono ?_; rintro e w1 ⟨rfl, k1⟩
  have kk : Kp w w1 := K0.out.1.trans k1
  have r1 := (k1.block w.heap.size (heap_lt K0.out.2)).trans K0.out.2
  have z0 : w1.cell? ⟨w.heap.size, 0, none⟩ = some (.int .i64 0) := cell_of r1 0
  have z1 : w1.cell? ⟨w.heap.size, 1, none⟩ = some (.string ⟨#[]⟩) := cell_of r1 1
  have z2 : w1.cell? ⟨w.heap.size, 2, none⟩ = some (.int .i64 0) := cell_of r1 2
  have ff := frozen_of r1
  have f0 := ff 0
  have f1 := ff 1
  have f2 := ff 2
  have HR : Hid (Kp w w1 ∧ w1.heap[w.heap.size]? = some (.cells #[.int .i64 0, .string ⟨#[]⟩, .int .i64 0] 31 (0, 0))) := ⟨kk, r1⟩
  have h := HH.out
  clear K0 k1 r1 ff hL
  by_cases hn : 0 < S.L.length
  · have HD : Hid (decide (0 < S.L.length) = true) := decide_eq_true hn
    obtain ⟨v, t1, q1, q2, q3, q4, q5⟩ := h.kept kk
    have c0 := cell_of q1 0
    rcases q3.row with ⟨_, hl0⟩ | ⟨g, cap, cs, hv, hb, R, hle, hcm, ht⟩
    · rw [hl0] at hn; simp at hn
    · obtain ⟨a', b', off', cap', hva, hIt⟩ := q3.it
      have hIt2 : ItAt w1 (some ⟨g, 0, none⟩) g 0 cap S.L := by
        have e := hIt.ha hn
        rw [hv] at hva
        simp at hva
        obtain ⟨e1, e2⟩ := hva
        rw [← e1] at e
        cases e
        rw [← e1, ← e2] at hIt
        exact hIt
      have hM := minf_any g cap S.L w1 hn hl hIt2
      have c0' : w1.cell? ⟨a, 0, none⟩ = some (.slice (some ⟨g, 0, none⟩) S.L.length cap) := by rw [← hv]; exact c0
      obtain ⟨n, hnn⟩ : ∃ n, n = S.L.length := ⟨_, rfl⟩
      rw [← hnn] at c0' hM hn hl ⊢
      have hne : ¬ ((n : Int) = 0) := by omega
      clear hIt hIt2 hva R ht c0 hv q1 q2 q3 q4 q5 t1 HH h kk hnn
      go_wp2_with fail
      refine hM.mono ?_; rintro e w2 ⟨rfl, k2⟩
      obtain ⟨y, hy⟩ : ∃ y, y = olI S.L := ⟨_, rfl⟩
      have HY : Hid (y = olI S.L) := hy
      rw [← hy]
      have r2 := (k2.block w.heap.size (heap_lt HR.out.2)).trans HR.out.2
      have y0 : w2.cell? ⟨w.heap.size, 0, none⟩ = some (.int .i64 0) := cell_of r2 0
      have y1 : w2.cell? ⟨w.heap.size, 1, none⟩ = some (.string ⟨#[]⟩) := cell_of r2 1
      have y2 : w2.cell? ⟨w.heap.size, 2, none⟩ = some (.int .i64 0) := cell_of r2 2
      have ff := frozen_of r2
      have g0 := ff 0
      have g1 := ff 1
      have g2 := ff 2
      have HR2 : Hid (Kp w w2 ∧ w2.heap[w.heap.size]? = some (.cells #[.int .i64 0, .string ⟨#[]⟩, .int .i64 0] 31 (0, 0))) := ⟨HR.out.1.trans k2, r2⟩
      clear r2 ff k2 hM HR hy f0 f1 f2 z0 z1 z2 c0'
      unfold itV
      go_wp2
      obtain ⟨b1, b2⟩ := box3 HR2.out.2 (.int .i64 y.b) (.string y.d) (.int .i64 y.g)
      refine bodyPost_ret (results_it2 rfl _ _ w.heap.size y (.bool true) rfl rfl (cell_of b1 0) (cell_of b1 1) (cell_of b1 2)) rfl ?_
      exact ⟨by rw [HD.out, HY.out], Sp.kp HR2.out.1 b2 (fun t ht => by simp at ht; omega)⟩
  · have h0 : S.L = [] := List.eq_nil_of_length_eq_zero (by omega)
    have HL : Hid (S.L = []) := h0
    rw [h0]
    clear h HH kk hn h0
    simp only [List.length_nil]
    go_wp2
    obtain ⟨b1, b2⟩ := box3 HR.out.2 (.int .i64 0) (.string ⟨#[]⟩) (.int .i64 0)
    refine bodyPost_ret (results_it2 rfl _ _ w.heap.size iz (.bool false) rfl rfl (cell_of b1 0) (cell_of b1 1) (cell_of b1 2)) rfl ?_
    exact ⟨by rw [HL.out]; first | rfl | simp [olI], Sp.kp HR.out.1 b2 (fun t ht => by simp at ht; omega)⟩

end Go.Proofs.Ytdfdoinhkjoalaa
