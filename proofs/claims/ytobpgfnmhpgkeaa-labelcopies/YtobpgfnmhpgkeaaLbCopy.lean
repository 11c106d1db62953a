/-
  Contracts of slices.Clone (of states, of numbers) and of label's Copy. Conditions: that the lists lie in memory and are short.
-/
import Derived.Test.YtobpgfnmhpgkeaaLbTwo
import Derived.Laws.ResultCell
namespace Go.Proofs.Ytobpgfnmhpgkeaa
open Go.RowKit Plain
set_option linter.unusedVariables false

theorem hid2 {p : Prop} (h : p) : Hid p := h
set_option maxRecDepth 100000 in
set_option maxHeartbeats 1000000 in
theorem cloneS_any (v : Value) (l : List Int) (w : World) (h : Nl w v l) (hl : l.length ≤ 1000) : Calls Try.prog 39 #[v] w fun r w' => ∃ u, r = .returned u ∧ Oi 67 w' w.heap.size u l ∧ Kp w w' := by
  obtain ⟨a, g, off, cap, rfl, A⟩ := h
  cases a with
  | none =>
    have h0 : l.length = 0 := by
      by_cases h : 0 < l.length
      · have := A.ha h; cases this
      · omega
    obtain rfl : l = [] := List.eq_nil_of_length_eq_zero h0
    have heq := run_eql_slice_nil (P := Try.prog) w 27 67 none 0 cap eiS.u
    simp only [Option.isNone_none] at heq
    simp only [List.length_nil]
    go_enter Try.func39, Try.ntmps39
    go_wp2
    go_ret
    exact ⟨_, rfl, Oi.nil _ _ _, Kp.refl w⟩
  | some ad =>
    have hown : (w.alloc (.cells #[] 67)).ownsRow w.heap.size 67 1 (.slice (some ⟨w.heap.size, 0, none⟩) 0 0) 0 [] := ⟨rfl, .inr ⟨w.heap.size, 0, #[], rfl, Nat.le_refl _, heap_alloc_new w _, Nat.le_refl _, by unfold maxLen; omega, rfl, rfl⟩⟩
    obtain ⟨i0, hi, hz0, hz1, hz2⟩ := info_parts eiS.i
    have hnews : ∀ j u, (l.map (Value.int .i64))[j]? = some u → (w.alloc (.cells #[] 67)).cell? (ad.add j) = some u := fun j u hj => by
      have hjl : j < l.length := by have := (List.getElem?_eq_some_iff.1 hj).1; simpa using this
      have hc := A.c j hjl
      obtain rfl : ad = ⟨g, off, none⟩ := by have := A.ha (by omega); exact Option.some.inj this
      have hadd : (⟨g, off, none⟩ : Addr).add j = ⟨g, off + j, none⟩ := by simp [Addr.add]
      rw [hadd, ((Kp.refl w).alloc _).held hc]
      rw [List.getElem?_map, List.getElem?_eq_getElem hjl] at hj
      simp at hj
      rw [← hj, List.getD_eq_getElem?_getD, List.getElem?_eq_getElem hjl]
      rfl
    have hone : ∀ u ∈ l.map (Value.int .i64), u.oneCell' = true := by intro u hu; obtain ⟨x, _, rfl⟩ := List.mem_map.1 hu; rfl
    have hlen : (l.map (Value.int .i64)).length = l.length * 1 := by simp
    obtain ⟨N, hN⟩ : ∃ N, N = l.length := ⟨_, rfl⟩
    have HN := hid2 hN
    rw [← hN] at hlen hl ⊢
    have heq := run_eql_slice_nil (P := Try.prog) w 27 67 (some ad) N cap eiS.u
    simp only [Option.isNone_some] at heq
    have HNW := hid2 hnews
    have HON := hid2 hone
    have HLE := hid2 hlen
    have HOW := hid2 hown
    clear A hN hnews hone hlen hown
    go_enter Try.func39, Try.ntmps39
    go_wp2_with (at_builtin; refine wpList_append_own_at _ rfl _ _ 27 rfl w.heap.size 67 i0 (.int .i64 0) 1 8 eiS.u hi hz0 hz1 hz2 rfl (by decide) _ 0 [] rfl HOW.out ad N cap (l.map (Value.int .i64)) rfl HLE.out HNW.out HON.out (by unfold maxLen; omega) (by omega) (by simp) ?_; intro v' w' h2 h3 h4 h5; have K : Kp w w' := Kp.grown ((Kp.refl w).alloc _) h3 (fun k hk => by obtain rfl : w.heap.size = k := Option.some.inj hk; exact Nat.le_refl _); have HO : Hid (Oi 67 w' w.heap.size v' l) := (by show Oi _ _ _ _ _; unfold Oi; rw [Nat.zero_add, List.nil_append, HN.out] at h2; exact h2); clear h2 h3 h4 h5)
    go_ret
    exact ⟨_, rfl, HO.out, K⟩
set_option maxRecDepth 100000 in
set_option maxHeartbeats 1000000 in
theorem cloneI_any (v : Value) (l : List Int) (w : World) (h : Nl w v l) (hl : l.length ≤ 1000) : Calls Try.prog 40 #[v] w fun r w' => ∃ u, r = .returned u ∧ Oi 3 w' w.heap.size u l ∧ Kp w w' := by
  obtain ⟨a, g, off, cap, rfl, A⟩ := h
  cases a with
  | none =>
    have h0 : l.length = 0 := by
      by_cases h : 0 < l.length
      · have := A.ha h; cases this
      · omega
    obtain rfl : l = [] := List.eq_nil_of_length_eq_zero h0
    have heq := run_eql_slice_nil (P := Try.prog) w 22 3 none 0 cap eiI.u
    simp only [Option.isNone_none] at heq
    simp only [List.length_nil]
    go_enter Try.func40, Try.ntmps40
    go_wp2
    go_ret
    exact ⟨_, rfl, Oi.nil _ _ _, Kp.refl w⟩
  | some ad =>
    have hown : (w.alloc (.cells #[] 3)).ownsRow w.heap.size 3 1 (.slice (some ⟨w.heap.size, 0, none⟩) 0 0) 0 [] := ⟨rfl, .inr ⟨w.heap.size, 0, #[], rfl, Nat.le_refl _, heap_alloc_new w _, Nat.le_refl _, by unfold maxLen; omega, rfl, rfl⟩⟩
    obtain ⟨i0, hi, hz0, hz1, hz2⟩ := info_parts eiI.i
    have hnews : ∀ j u, (l.map (Value.int .i64))[j]? = some u → (w.alloc (.cells #[] 3)).cell? (ad.add j) = some u := fun j u hj => by
      have hjl : j < l.length := by have := (List.getElem?_eq_some_iff.1 hj).1; simpa using this
      have hc := A.c j hjl
      obtain rfl : ad = ⟨g, off, none⟩ := by have := A.ha (by omega); exact Option.some.inj this
      have hadd : (⟨g, off, none⟩ : Addr).add j = ⟨g, off + j, none⟩ := by simp [Addr.add]
      rw [hadd, ((Kp.refl w).alloc _).held hc]
      rw [List.getElem?_map, List.getElem?_eq_getElem hjl] at hj
      simp at hj
      rw [← hj, List.getD_eq_getElem?_getD, List.getElem?_eq_getElem hjl]
      rfl
    have hone : ∀ u ∈ l.map (Value.int .i64), u.oneCell' = true := by intro u hu; obtain ⟨x, _, rfl⟩ := List.mem_map.1 hu; rfl
    have hlen : (l.map (Value.int .i64)).length = l.length * 1 := by simp
    obtain ⟨N, hN⟩ : ∃ N, N = l.length := ⟨_, rfl⟩
    have HN := hid2 hN
    rw [← hN] at hlen hl ⊢
    have heq := run_eql_slice_nil (P := Try.prog) w 22 3 (some ad) N cap eiI.u
    simp only [Option.isNone_some] at heq
    have HNW := hid2 hnews
    have HON := hid2 hone
    have HLE := hid2 hlen
    have HOW := hid2 hown
    clear A hN hnews hone hlen hown
    go_enter Try.func40, Try.ntmps40
    go_wp2_with (at_builtin; refine wpList_append_own_at _ rfl _ _ 22 rfl w.heap.size 3 i0 (.int .i64 0) 1 8 eiI.u hi hz0 hz1 hz2 rfl (by decide) _ 0 [] rfl HOW.out ad N cap (l.map (Value.int .i64)) rfl HLE.out HNW.out HON.out (by unfold maxLen; omega) (by omega) (by simp) ?_; intro v' w' h2 h3 h4 h5; have K : Kp w w' := Kp.grown ((Kp.refl w).alloc _) h3 (fun k hk => by obtain rfl : w.heap.size = k := Option.some.inj hk; exact Nat.le_refl _); have HO : Hid (Oi 3 w' w.heap.size v' l) := (by show Oi _ _ _ _ _; unfold Oi; rw [Nat.zero_add, List.nil_append, HN.out] at h2; exact h2); clear h2 h3 h4 h5)
    go_ret
    exact ⟨_, rfl, HO.out, K⟩
theorem Oi.mono {e : TypeId} {w : World} {base b2 : Nat} {v : Value} {l : List Int} (h : Oi e w base v l) (hb : b2 ≤ base) : Oi e w b2 v l := by
  refine ⟨h.1, ?_⟩
  rcases h.2 with h' | ⟨g, cap, cur, h', hb', hr⟩
  · exact .inl h'
  · exact .inr ⟨g, cap, cur, h', by omega, hr⟩
set_option maxRecDepth 100000 in
set_option maxHeartbeats 2000000 in
theorem copy_any (n s ep : Int) (l m : List Int) (sv mv : Value) (w : World) (h1 : Nl w sv l) (h2 : Nl w mv m) (hl : l.length ≤ 1000) (hm : m.length ≤ 1000) : Calls Try.prog 26 #[lV n s ep sv mv] w fun e w' => ∃ u1 u2, e = .returned (lV n s ep u1 u2) ∧ Oi 67 w' w.heap.size u1 l ∧ Oi 3 w' w.heap.size u2 m ∧ Apt u1 u2 ∧ Kp w w' := by
  obtain ⟨a1, n1, p1, rfl⟩ : ∃ a n c, sv = .slice a n c := by obtain ⟨a, g, off, cap, rfl, _⟩ := h1; exact ⟨_, _, _, rfl⟩
  obtain ⟨a2, n2, p2, rfl⟩ : ∃ a n c, mv = .slice a n c := by obtain ⟨a, g, off, cap, rfl, _⟩ := h2; exact ⟨_, _, _, rfl⟩
  have hC1 := fun w' (k : Kp w w') => cloneS_any _ l w' (h1.kept k) hl
  have hC2 := fun w' (k : Kp w w') => cloneI_any _ m w' (h2.kept k) hm
  unfold lV
  clear h1 h2
  go_enter Try.func26, Try.ntmps26
  go_wp2_with fail
  refine (hC1 _ (((Kp.refl w).alloc _).alloc _)).mono ?_; rintro e w1 ⟨u1, rfl, o1, k1⟩
  obtain ⟨b1, m1, q1, rfl⟩ := o1.shape
  have hz : ((w.alloc (.cells #[.int .i64 n, .int .i64 s, .int .i64 ep, .slice a1 n1 p1, .slice a2 n2 p2] 29)).alloc (.cells #[.int .i64 0, .int .i64 0, .int .i64 0, .slice none 0 0, .slice none 0 0] 29)).heap.size = w.heap.size + 1 + 1 := by simp
  have l1 : Lc w1 w.heap.size n s ep (.slice a1 n1 p1) (.slice a2 n2 p2) := ((Lc.new w n s ep _ _ 29).kept ((Kp.refl _).alloc _)).kept k1
  have l2 : Lc w1 (w.heap.size + 1) 0 0 0 (.slice none 0 0) (.slice none 0 0) := by
    have := Lc.new (w.alloc (.cells #[.int .i64 n, .int .i64 s, .int .i64 ep, .slice a1 n1 p1, .slice a2 n2 p2] 29)) 0 0 0 (.slice none 0 0) (.slice none 0 0) 29
    rw [show (w.alloc (.cells #[.int .i64 n, .int .i64 s, .int .i64 ep, .slice a1 n1 p1, .slice a2 n2 p2] 29)).heap.size = w.heap.size + 1 by simp] at this
    exact this.kept k1
  have z1 : ∀ o, w1.frozen? ⟨w.heap.size, o, none⟩ = false := fun o => (Below.frozen (p := ⟨w.heap.size, o, none⟩) k1 (by simp; omega)).trans ((Below.frozen (p := ⟨w.heap.size, o, none⟩) ((Kp.refl _).alloc _) (by simp)).trans (by simp))
  have z2 : ∀ o, w1.frozen? ⟨w.heap.size + 1, o, none⟩ = false := fun o => (Below.frozen (p := ⟨w.heap.size + 1, o, none⟩) k1 (by simp)).trans (by simp)
  have K1 : Kp w w1 := (((Kp.refl w).alloc _).alloc _).trans k1
  rw [hz] at o1
  obtain ⟨c0, c1, c2, c3, c4⟩ := l1
  have HL1 : Hid (Lc w1 w.heap.size n s ep (.slice a1 n1 p1) (.slice a2 n2 p2)) := ⟨c0, c1, c2, c3, c4⟩
  have HL2 : Hid (Lc w1 (w.heap.size + 1) 0 0 0 (.slice none 0 0) (.slice none 0 0)) := l2
  have HO1 : Hid (Oi 67 w1 (w.heap.size + 1 + 1) (.slice b1 m1 q1) l) := o1
  have HK1 : Hid (Kp w w1) := K1
  have hs1 : w.heap.size + 1 < w1.heap.size := World.block_lt_of_cell? _ _ l2.c0
  have HZ1 : Hid (∀ o, w1.frozen? ⟨w.heap.size, o, none⟩ = false) := z1
  have HZ2 : Hid (∀ o, w1.frozen? ⟨w.heap.size + 1, o, none⟩ = false) := z2
  clear hC1 hz l2 o1 K1 k1 z2
  have t1 : Trd w.heap.size w1 (w1.setCell ⟨w.heap.size, 3, none⟩ (.slice b1 m1 q1)) := (Trd.refl _ w1).setCell 3 _
  have HT1 : Hid (Trd w.heap.size w1 (w1.setCell ⟨w.heap.size, 3, none⟩ (.slice b1 m1 q1))) := t1
  have hC3 := hC2 _ (t1.kp w HK1.out (Nat.le_refl _))
  clear hC2 t1
  go_wp2_with fail
  refine hC3.mono ?_; rintro e w2 ⟨u2, rfl, o2, k2⟩
  obtain ⟨b2, m2, q2, rfl⟩ := o2.shape
  have hsz : (w1.setCell ⟨w.heap.size, 3, none⟩ (.slice b1 m1 q1)).heap.size = w1.heap.size := World.size_setCell _ _ _
  rw [hsz] at o2
  have l3 := (HL1.out.set3 (.slice b1 m1 q1)).kept k2
  have l4 := (HT1.out.lc (c := w.heap.size + 1) (by omega) HL2.out).kept k2
  have HO2 : Hid (Oi 3 w2 w1.heap.size (.slice b2 m2 q2) m) := o2
  have HO3 : Hid (Oi 67 w2 (w.heap.size + 1 + 1) (.slice b1 m1 q1) l) := (HT1.out.oi HO1.out (HO1.out.far (by omega))).kept k2
  have HK2 : Hid (Kp w w2) := (HT1.out.kp w HK1.out (Nat.le_refl _)).trans k2
  have HAp : Hid (Apt (.slice b1 m1 q1) (.slice b2 m2 q2)) := fun k hk hk2 => by
    have h1 := (HO1.out.low k hk).2
    have h2 := (HO2.out.low k hk2).1
    omega
  have z3 : ∀ o, w2.frozen? ⟨w.heap.size, o, none⟩ = false := fun o => (Below.frozen (p := ⟨w.heap.size, o, none⟩) k2 (by rw [hsz]; show w.heap.size < _; omega)).trans (by rw [World.frozen?_setCell]; exact HZ1.out o)
  have z4 : ∀ o, w2.frozen? ⟨w.heap.size + 1, o, none⟩ = false := fun o => (Below.frozen (p := ⟨w.heap.size + 1, o, none⟩) k2 (by rw [hsz]; exact hs1)).trans (by rw [World.frozen?_setCell]; exact HZ2.out o)
  have HL4 : Hid (Lc w2 (w.heap.size + 1) 0 0 0 (.slice none 0 0) (.slice none 0 0)) := l4
  obtain ⟨d0, d1, d2, d3, d4⟩ := l3
  obtain ⟨e0, e1, e2, e3, e4⟩ := l4
  clear hC3 o2 k2 c0 c1 c2 c3 c4 z1 hsz
  go_wp2
  have t5 : Trd w.heap.size w2 (w2.setCell ⟨w.heap.size, 4, none⟩ (.slice b2 m2 q2)) := (Trd.refl _ w2).setCell 4 _
  have t6 := (Trd.refl (w.heap.size + 1) (w2.setCell ⟨w.heap.size, 4, none⟩ (.slice b2 m2 q2))).over n s ep (.slice b1 m1 q1) (.slice b2 m2 q2)
  have r1 := t6.oi (t5.oi HO3.out (HO3.out.far (by omega))) (HO3.out.far (by omega))
  have r2 := t6.oi (t5.oi HO2.out (HO2.out.far (by omega))) (HO2.out.far (by omega))
  have lf := (t5.lc (c := w.heap.size + 1) (by omega) HL4.out).over (n2 := n) (s2 := s) (ep2 := ep) (sv2 := .slice b1 m1 q1) (mv2 := .slice b2 m2 q2)
  refine bodyPost_ret (results_lb rfl _ _ (w.heap.size + 1) rfl lf) rfl ?_
  exact ⟨_, _, rfl, r1.mono (by omega), r2.mono (by omega), HAp.out, t6.kp w (t5.kp w HK2.out (Nat.le_refl _)) (by omega)⟩

end Go.Proofs.Ytobpgfnmhpgkeaa
