/-
  Contract of marks' Runs: the runs of a set, rising, in memory of the call's own. Condition: that the library's table reads as its text lays it.
-/
import Derived.Test.YtekbhgcnobiplaaDoorMkList
import Derived.Deep.DeepCutAuto
namespace Go.Proofs.YtekbhgcnobiplaaDoor
open Go.RowKit Plain
set_option linter.unusedVariables false

def gpF (f : Nat → Bool) : Nat → Bool := lessF (upF 256) f
theorem nx_facts (f : Nat → Bool) (a : Nat) (ha : a ≤ 256) : nx f a ≤ 256 ∧ a ≤ nx f a ∧ (nx f a < 256 → f (nx f a) = true) ∧ ∀ j, a ≤ j → j < nx f a → f j = false := by
  obtain ⟨_, h2, h3, h4⟩ := fl_next f a ha
  refine ⟨h3, ?_, h2, fun j h5 h6 => ?_⟩
  · by_cases hl : nx f a < 256
    · exact h4 hl
    · omega
  · have := fs_before 256 (lessF f (upF a)) j h6
    unfold lessF upF at this
    rw [decide_eq_false (by omega), Bool.not_false, Bool.and_true] at this
    exact this
theorem run_step (f : Nat → Bool) (N : Nat) (hN : N < 256) (h1 : f N = true) (h2 : N = 0 ∨ f (N - 1) = false) :
    N < nx (gpF f) N ∧ nx (gpF f) N ≤ 256 ∧ rn (nx f (nx (gpF f) N : Nat)) f = rn N f ++ [(N, nx (gpF f) N - N)] ∧ nx f (nx (gpF f) N : Nat) ≤ 256 ∧ N < nx f (nx (gpF f) N : Nat) ∧
      (nx f (nx (gpF f) N : Nat) < 256 → f (nx f (nx (gpF f) N : Nat)) = true ∧ (nx f (nx (gpF f) N : Nat) = 0 ∨ f (nx f (nx (gpF f) N : Nat) - 1) = false)) := by
  obtain ⟨a1, a2, a3, a4⟩ := nx_facts (gpF f) N (by omega)
  obtain ⟨M, hM⟩ : ∃ M, M = nx (gpF f) N := ⟨_, rfl⟩
  rw [← hM] at a1 a2 a3 a4 ⊢
  obtain ⟨b1, b2, b3, b4⟩ := nx_facts f M a1
  have hg : ∀ j, j < 256 → gpF f j = !f j := fun j hj => by unfold gpF lessF upF; rw [decide_eq_true (by omega)]; rfl
  have hall : ∀ j, N ≤ j → j < M → f j = true := fun j h3 h4 => by
    have := a4 j h3 h4
    rw [hg j (by omega)] at this
    simpa using this
  have hMf : M < 256 → f M = false := fun h => by
    have := a3 h
    rw [hg M h] at this
    simpa using this
  have hNM : N < M := by
    by_cases e : M = N
    · subst e
      have := hMf hN
      rw [h1] at this; cases this
    · omega
  refine ⟨hNM, a1, ?_, b1, by omega, fun hl => ⟨b3 hl, .inr ?_⟩⟩
  · rw [rn_skip' f M _ b2 b4, rn_run' f N M h2 hNM hall]
  · by_cases e : nx f (M : Nat) = M
    · rw [e] at hl b3
      have := hMf hl
      rw [b3 hl] at this; cases this
    · exact b4 _ (by omega) (by omega)
/-- cells of pairs. -/
def pv : List (Nat × Nat) → List Value
  | [] => []
  | p :: l => .int .i64 (p.1 : Nat) :: .int .i64 (p.2 : Nat) :: pv l
theorem pv_len : ∀ l, (pv l).length = l.length * 2
  | [] => rfl
  | p :: l => by simp only [pv, List.length_cons, pv_len l]; omega
theorem pv_app : ∀ l m, pv (l ++ m) = pv l ++ pv m
  | [], m => rfl
  | p :: l, m => by simp only [pv, List.cons_append, pv_app l m]
theorem pv_at : ∀ (l : List (Nat × Nat)) (i : Nat), i < l.length → (pv l)[2 * i]? = some (.int .i64 ((l.getD i (0, 0)).1 : Nat)) ∧ (pv l)[2 * i + 1]? = some (.int .i64 ((l.getD i (0, 0)).2 : Nat))
  | [], i, h => by simp at h
  | p :: l, 0, h => by simp [pv]
  | p :: l, i + 1, h => by
    have := pv_at l i (by simpa using h)
    rw [show 2 * (i + 1) = 2 * i + 1 + 1 by omega, show 2 * i + 1 + 1 + 1 = 2 * i + 1 + 1 + 1 from rfl]
    simpa [pv] using this
/-- a list of pairs in memory. -/
inductive PairsIn (w : World) : Value → List (Nat × Nat) → Prop
  | empty (a : Option Addr) (cap : Nat) (h : cap ≤ maxLen) : PairsIn w (.slice a 0 cap) []
  | some (b cap : Nat) (l : List (Nat × Nat)) (h0 : 0 < l.length) (h1 : l.length ≤ cap) (h2 : cap ≤ maxLen) (hc : ∀ i, i < l.length → w.cell? ⟨b, 2 * i, none⟩ = Option.some (.int .i64 ((l.getD i (0, 0)).1 : Nat)) ∧ w.cell? ⟨b, 2 * i + 1, none⟩ = Option.some (.int .i64 ((l.getD i (0, 0)).2 : Nat))) : PairsIn w (.slice (Option.some ⟨b, 0, none⟩) l.length cap) l
theorem PairsIn.kept {w w' : World} {v : Value} {l : List (Nat × Nat)} (h : PairsIn w v l) (k : Kp w w') : PairsIn w' v l := by
  cases h with
  | empty a cap h => exact .empty a cap h
  | some b cap l h0 h1 h2 hc => exact .some b cap l h0 h1 h2 (fun i hi => ⟨k.held (hc i hi).1, k.held (hc i hi).2⟩)
theorem PairsIn.owned {w : World} {base : Nat} {e : TypeId} {v : Value} {l : List (Nat × Nat)} (h : w.ownsRow base e 2 v l.length (pv l)) : PairsIn w v l := by
  rcases h.2 with ⟨rfl, h0⟩ | ⟨g, cap, cur, rfl, _, hg, hn, hm, hcs, htake⟩
  · obtain rfl : l = [] := List.eq_nil_of_length_eq_zero h0
    exact .empty none 0 (by unfold maxLen; omega)
  · by_cases h0 : l.length = 0
    · obtain rfl : l = [] := List.eq_nil_of_length_eq_zero h0
      exact .empty _ cap hm
    · refine .some g cap l (by omega) hn hm (fun i hi => ?_)
      have hp := pv_at l i hi
      exact ⟨by rw [h.cellAt (2 * i) (by omega)]; exact hp.1, by rw [h.cellAt (2 * i + 1) (by omega)]; exact hp.2⟩
theorem put4_block (w : World) (c : Nat) (u : Nat → Nat) (k : Nat) (h : k ≠ c) : (put4 w c u).heap[k]? = w.heap[k]? := by
  unfold put4
  rw [Below.heap_setCell _ _ _ _ h, Below.heap_setCell _ _ _ _ h, Below.heap_setCell _ _ _ _ h, Below.heap_setCell _ _ _ _ h]
theorem own_put4 {w : World} {base : Nat} {e : TypeId} {size : Nat} {v : Value} {n : Nat} {xs : List Value} (h : w.ownsRow base e size v n xs) (c : Nat) (u : Nat → Nat) (hc : ∀ k, v.ownBlock = some k → k ≠ c) : (put4 w c u).ownsRow base e size v n xs := by
  rcases h.2 with ⟨h', h0⟩ | ⟨g, cap, cur, h', hb, hg, hr⟩
  · exact ⟨h.1, .inl ⟨h', h0⟩⟩
  · exact ⟨h.1, .inr ⟨g, cap, cur, h', hb, (put4_block _ _ _ _ (hc g (by rw [h']; rfl))).trans hg, hr⟩⟩
theorem own_ne4 {w : World} {base : Nat} {e : TypeId} {v : Value} {l : List (Nat × Nat)} (h : w.ownsRow base e 2 v l.length (pv l)) (hl : 0 < l.length) {b : Nat} {u : Nat → Nat} (a : A4 w b u) : ∀ k, v.ownBlock = some k → k ≠ b := by
  intro k hk hkb
  subst hkb
  rcases h.2 with ⟨_, h0⟩ | ⟨g, cap, cur, rfl, _⟩
  · omega
  · obtain rfl : g = k := by simpa [Value.ownBlock] using hk
    have h1 := h.cellAt 0 (by omega)
    have h2 := (pv_at l 0 hl).1
    have h3 := a.c 0 (by omega)
    rw [h3] at h1
    rw [show 2 * 0 = 0 from rfl, ← h1] at h2
    simp at h2
theorem A4.grownN {w w' : World} {b : Nat} {v : Nat → Nat} {row : Option Nat} (h : A4 w b v) (g : w.grownBy w' row) (hr : ∀ k, row = some k → k ≠ b) : A4 w' b v :=
  h.of_block (g.block b h.lt (fun e => hr b e.symm rfl)) g.size
theorem info_pair : (Tryd.prog.info? 47).map (fun i => (i.zero, i.size, i.bytes)) = some (some (.agg #[.int .i64 0, .int .i64 0]), 2, 16) := by kernel_rfl
theorem build_pair (a b : Int) (w : World) : (Instr.build 47 #[(0, .int .i64 a), (1, .int .i64 b)]).run Tryd.prog w = .ok (.agg #[.int .i64 a, .int .i64 b]) w := run_build w 47 _ _ (by kernel_rfl)

set_option maxRecDepth 100000 in
set_option maxHeartbeats 4000000 in
theorem runs_any (f : Nat → Bool) (w : World) (hT : Tab w) : Calls Tryd.prog 28 #[SV f] w fun e w' => ∃ v, e = .returned v ∧ PairsIn w' v (rn 256 f) ∧ Kp w w' := by
  obtain ⟨i0, hi, hz0, hz1, hz2⟩ := info_parts info_pair
  obtain ⟨w0, hw0⟩ : ∃ w0, w0 = (w.alloc (.cells (w4 (wd f)) 25)).alloc (.cells #[] 47) := ⟨_, rfl⟩
  have a1 : A4 w0 w.heap.size (wd f) := by rw [hw0]; exact (A4.new w _ _).alloc _
  have k0 : Kp w w0 := by rw [hw0]; exact ((Kp.refl w).alloc _).alloc _
  have HW : Hid (w0 = (w.alloc (.cells (w4 (wd f)) 25)).alloc (.cells #[] 47)) := hw0
  have hown0 : w0.ownsRow (w.heap.size + 1) 47 2 (.slice (some ⟨w.heap.size + 1, 0, none⟩) 0 0) 0 [] := by
    rw [hw0]
    have := World.ownsRow_lit (base := w.heap.size + 1) (e := 47) (size := 2) (w.alloc (.cells (w4 (wd f)) 25)) #[] 0 (by simp) (by unfold maxLen; omega) rfl
    simpa using this
  clear hw0
  have hU := upto_any 256 (by omega)
  have hL := less_any (upF 256) f
  rw [show lessF (upF 256) f = gpF f from rfl] at hL
  unfold SV at hU hL ⊢
  go_enter Tryd.func28, Tryd.ntmps28
  go_wp2_with fail
  rw [show (w.alloc (.cells #[.int .u64 ((wd f 0 : Nat) : Int), .int .u64 ((wd f 1 : Nat) : Int), .int .u64 ((wd f 2 : Nat) : Int), .int .u64 ((wd f 3 : Nat) : Int)] 25)).alloc (.cells #[] 47) = w0 from HW.out.symm]
  clear HW
  obtain ⟨c0, c1, c2, c3⟩ := a1.cells
  have hb0 : w.heap.size < w0.heap.size := a1.lt
  have hb1 : w.heap.size + 1 < w0.heap.size := by
    rcases hown0.2 with ⟨h, _⟩ | ⟨g, cap, cur, h, _, hg, _⟩
    · simp at h
    · simp at h
      obtain ⟨rfl, _⟩ := h
      exact (Array.getElem?_eq_some_iff.1 hg).1
  go_cut [4] (fun g wx => ∃ G, g = .pointer (some ⟨G, 0, none⟩) ∧ A4 wx G (wd (gpF f)) ∧ A4 wx w.heap.size (wd f) ∧ wx.ownsRow (w.heap.size + 1) 47 2 (.slice (some ⟨w.heap.size + 1, 0, none⟩) 0 0) 0 [] ∧ Kp w wx ∧ w.heap.size + 1 < G)
  case first =>
    have HR : Hid (∀ W, Kp w0 W → A4 W w.heap.size (wd f) ∧ W.ownsRow (w.heap.size + 1) 47 2 (.slice (some ⟨w.heap.size + 1, 0, none⟩) 0 0) 0 [] ∧ Kp w W) := fun W hW => ⟨a1.kept hW, hW.own hown0, k0.trans hW⟩
    clear hown0 k0 a1
    go_region_with (first
      | (go_at_call 8; refine (hU _).mono ?_; rintro e wa ⟨rfl, ka⟩; have kA : Kp w0 wa := (by first | exact ((Kp.refl _).drew).trans ka | exact (((Kp.refl _).drew).alloc _).trans ka); obtain ⟨p0, p1, p2, p3⟩ := (HR.out _ kA).1.cells; have hba := (HR.out _ kA).1.lt)
      | (go_at_call 22; refine (hL _).mono ?_; rintro e wb ⟨rfl, kb⟩; have kB : Kp w0 wb := (by first | exact kA.trans kb | exact (kA.alloc _).trans kb); (try have g4 : A4 wb w0.heap.size no4 := ((A4.new w0.drew no4 25).kept ka).kept kb); (try have g4 : A4 wb wa.heap.size no4 := (A4.new wa no4 25).kept kb); (try obtain ⟨g0, g1, g2, g3⟩ := g4.cells); (try have gz := g4.z)))
    all_goals (go_wp2_with fail; go_meet)
    all_goals first
      | exact ⟨wb.heap.size, rfl, A4.new wb (wd (gpF f)) _, (HR.out _ kB).1.alloc _, ((Kp.refl wb).alloc _).own (HR.out _ kB).2.1, (HR.out _ kB).2.2.alloc _, by have := kB.size; omega⟩
      | exact ⟨wa.heap.size, rfl, g4.put (wd (gpF f)), (HR.out _ kB).1.putFar (by have := kA.size; omega) _, own_put4 (HR.out _ kB).2.1 _ _ (fun k hk => by simp [Value.ownBlock] at hk; have := kA.size; omega), (HR.out _ kB).2.2.put4 (by have := kA.size; omega) _, by have := kA.size; omega⟩
      | exact ⟨w0.heap.size, rfl, g4.put (wd (gpF f)), (HR.out _ kB).1.putFar (by omega) _, own_put4 (HR.out _ kB).2.1 _ _ (fun k hk => by simp [Value.ownBlock] at hk; omega), (HR.out _ kB).2.2.put4 (by omega) _, by omega⟩
  obtain ⟨G, rfl, aG, aF, hown, hK, hG⟩ := hcut
  clear hown0 k0 hU hL a1 c0 c1 c2 c3 hb0 hb1
  obtain ⟨W, hW⟩ : ∃ W, W = wc := ⟨_, rfl⟩
  rw [← hW] at aG aF hown hK ⊢
  clear hW
  obtain ⟨c0, c1, c2, c3⟩ := aF.cells
  have hN := next_any f 0 (by omega) W (hT.kp hK)
  obtain ⟨b1, b2, b3, b4⟩ := nx_facts f 0 (by omega)
  have HX : Hid (nx f 0 ≤ 256 ∧ (nx f 0 < 256 → f (nx f 0) = true ∧ (nx f 0 = 0 ∨ f (nx f 0 - 1) = false))) := ⟨b1, fun hl => ⟨b3 hl, by
    by_cases e : nx f 0 = 0
    · exact .inl e
    · exact .inr (b4 _ (Nat.zero_le _) (by show nx f 0 - 1 < nx f 0; omega))⟩⟩
  have HE : Hid (rn (nx f 0) f = []) := rn_skip' f 0 _ (Nat.zero_le _) b4
  obtain ⟨N0, hN0⟩ : ∃ N0, N0 = nx f 0 := ⟨_, rfl⟩
  rw [← hN0] at hN HX HE
  clear b1 b2 b3 b4 hN0
  unfold SV at hN
  go_wp2_with fail
  refine hN.mono ?_; rintro e W3 ⟨rfl, k3⟩
  have aG3 := aG.kept k3
  have aF3 := aF.kept k3
  have K3 := hK.trans k3
  have hown3 : W3.ownsRow (w.heap.size + 1) 47 2 (.slice (some ⟨w.heap.size + 1, 0, none⟩) 0 0) (rn N0 f).length (pv (rn N0 f)) := by rw [HE.out]; exact k3.own hown
  clear hN aG aF hK hown k3 c0 c1 c2 c3 HE
  go_wp2
  go_loopw [3, 5, 6] (fun v i ok wr => ∃ N : Nat, (N ≤ 256 ∧ (N < 256 → f N = true ∧ (N = 0 ∨ f (N - 1) = false))) ∧ i = .int .i64 (nI N) ∧ ok = .bool (decide (N < 256)) ∧ wr.ownsRow (w.heap.size + 1) 47 2 v (rn N f).length (pv (rn N f)) ∧ A4 wr w.heap.size (wd f) ∧ A4 wr G (wd (gpF f)) ∧ Kp w wr ∧ (∀ k, v.ownBlock = some k → k ≠ w.heap.size ∧ k ≠ G)) (fun _ i ok _ => meas i ok)
  case atStart => exact ⟨N0, HX.out, rfl, rfl, hown3, aF3, aG3, K3, fun k hk => by simp [Value.ownBlock] at hk; omega⟩
  case round =>
    clear hown3 aF3 aG3 K3 HX
    obtain ⟨N, ⟨hN1, hN2⟩, rfl, rfl, hown, aF, aG, hK, hne⟩ := hrel
    by_cases hlt : N < 256
    · rw [show nI N = (N : Int) from if_pos hlt, decide_eq_true hlt]
      obtain ⟨r1, r2, r3, r4, r5, r6⟩ := run_step f N hlt (hN2 hlt).1 (hN2 hlt).2
      have hx := rn_len N f
      have hN := next_any (gpF f) (N : Nat) (by omega) wr (hT.kp hK)
      obtain ⟨M, hM⟩ : ∃ M, M = nx (gpF f) (N : Nat) := ⟨_, rfl⟩
      rw [← hM] at hN r1 r2 r3 r4 r5 r6
      have HR : Hid (rn (nx f (M : Nat)) f = rn N f ++ [(N, M - N)]) := r3
      have HX : Hid (nx f (M : Nat) ≤ 256 ∧ (nx f (M : Nat) < 256 → f (nx f (M : Nat)) = true ∧ (nx f (M : Nat) = 0 ∨ f (nx f (M : Nat) - 1) = false)) ∧ N < nx f (M : Nat)) := ⟨r4, r6, r5⟩
      clear hM r3 r4 r5 r6 hN2
      obtain ⟨g0, g1, g2, g3⟩ := aG.cells
      unfold SV at hN
      go_wp2_with fail
      refine hN.mono ?_; rintro e W4 ⟨rfl, k4⟩
      have aF4 := aF.kept k4
      have aG4 := aG.kept k4
      have K4 := hK.trans k4
      have hown4 := k4.own hown
      have hb := aF4.lt
      have hbg := aG4.lt
      have hbp := build_pair (N : Int) ((M : Int) - (N : Int))
      clear hN aF aG hK hown k4 g0 g1 g2 g3
      go_upto_if 26 with fail
      go_cut [7, 8] (fun s _ wx => s = .int .i64 (M : Nat) ∧ wx = W4)
      case first =>
        by_cases hM : M < 256
        · have e1 : nI M = (M : Int) := if_pos hM
          have e2 : decide (M < 256) = true := decide_eq_true hM
          simp only [e2]
          go_wp2_with fail
          go_meet
          exact ⟨by rw [e1], rfl⟩
        · obtain rfl : M = 256 := by omega
          have e2 : decide (256 < 256) = false := rfl
          go_wp2_with fail
          go_meet
          exact ⟨rfl, rfl⟩
      obtain ⟨rfl, hwc⟩ := hcut
      rw [hwc]
      clear hwc
      go_wp2_with (at_builtin; refine wpList_append_own _ rfl _ _ 44 rfl (w.heap.size + 1) 47 i0 (.agg #[.int .i64 0, .int .i64 0]) 2 16 Tryd.underlying44 hi hz0 hz1 hz2 rfl (by decide) _ _ _ rfl (hown4.alloc _) ⟨W4.heap.size, 0, none⟩ 1 1 [.int .i64 (N : Int), .int .i64 ((M : Int) - (N : Int))] rfl rfl ?c1 ?c2 ?c3 ?c4 ?c5 ?_)
      case c1 =>
        intro j u hj
        match j, hj with
        | 0, hj => simp at hj; subst hj; simp [Addr.add]
        | 1, hj => simp at hj; subst hj; simp [Addr.add]
      case c2 => intro u hu; simp at hu; rcases hu with rfl | rfl <;> rfl
      case c3 => unfold maxLen; omega
      case c4 => omega
      case c5 => simp; omega
      · intro v' W5 hown5 hgrow5 _
        have K5 : Kp w W5 := (K4.alloc _).grown hgrow5 (fun k hk => by have := own_lt hown4 k hk; omega)
        have aF5 := (aF4.alloc _).grownN hgrow5 (fun k hk => (hne k hk).1)
        have aG5 := (aG4.alloc _).grownN hgrow5 (fun k hk => (hne k hk).2)
        obtain ⟨c0, c1, c2, c3⟩ := aF5.cells
        have hN := next_any f (M : Nat) (by omega) W5 (hT.kp K5)
        have hown6 : W5.ownsRow (w.heap.size + 1) 47 2 v' (rn (nx f (M : Nat)) f).length (pv (rn (nx f (M : Nat)) f)) := by
          rw [HR.out, List.length_append, pv_app]
          rw [show pv [(N, M - N)] = [.int .i64 (N : Int), .int .i64 ((M : Int) - (N : Int))] by simp only [pv]; rw [show ((M - N : Nat) : Int) = (M : Int) - (N : Int) by omega]]
          exact hown5
        have hl6 : 0 < (rn (nx f (M : Nat)) f).length := by rw [HR.out]; simp
        obtain ⟨N', hN'⟩ : ∃ N', N' = nx f (M : Nat) := ⟨_, rfl⟩
        rw [← hN'] at hN hown6 hl6 HX
        have hne6 : ∀ k, v'.ownBlock = some k → k ≠ w.heap.size ∧ k ≠ G := fun k hk => ⟨own_ne4 hown6 hl6 aF5 k hk, own_ne4 hown6 hl6 aG5 k hk⟩
        clear HR hN' hown5 hown4 hgrow5 aF4 aG4 K4 hb hbg hx hne hl6 hbp
        unfold SV at hN
        go_wp2_with fail
        refine hN.mono ?_; rintro e W6 ⟨rfl, k6⟩
        have aF7 := aF5.kept k6
        have aG7 := aG5.kept k6
        have K7 := K5.trans k6
        have hown7 := k6.own hown6
        have HXX := HX.out
        clear hN aF5 aG5 K5 hown6 k6 c0 c1 c2 c3
        go_wp2
        go_roundw
        case rel => exact ⟨N', ⟨HX.out.1, HX.out.2.1⟩, rfl, rfl, hown7, aF7, aG7, K7, hne6⟩
        case measure =>
          clear hown7 aF7 aG7 K7 hne6
          simp only [meas, intOf]
          by_cases hm : N' < 256
          · rw [decide_eq_true hm, show nI N' = (N' : Int) from if_pos hm]
            simp only
            omega
          · rw [decide_eq_false hm]
            simp only
            omega
    · obtain rfl : N = 256 := by omega
      have HI := PairsIn.owned hown
      clear hown hN2 aF aG hne
      go_wp2
      go_ret
      exact ⟨_, rfl, HI, hK⟩

end Go.Proofs.YtekbhgcnobiplaaDoor
