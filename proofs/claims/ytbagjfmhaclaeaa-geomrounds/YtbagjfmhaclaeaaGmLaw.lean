/-
  Contracts of the laws' own equal, good and wakes. Conditions: that the lists' cells hold the numbers.
-/
import Derived.Test.YtbagjfmhaclaeaaGmDocMem
import Derived.Deep.RegionWith
import Derived.Deep.RegionHeld3
import Derived.Deep.DeepCutAuto
namespace Go.Proofs.Ytbagjfmhaclaeaa
open Go.RowKit Plain
set_option linter.unusedVariables false

theorem InI.mx {w : World} {v : Value} {l : List Int} (h : InI w v l) : l.length ≤ 9223372036854775807 := by
  obtain ⟨a, g, cap, _, h1, h2, _, _⟩ := h
  omega
set_option maxRecDepth 100000 in
set_option maxHeartbeats 2000000 in
theorem equal_any (va vb : Value) (l m : List Int) (w : World) (h1 : InI w va l) (h2 : InI w vb m) : Calls Try.prog 28 #[va, vb] w fun e w' => e = .returned (.bool (decide (l = m))) ∧ Kp w w' := by
  obtain ⟨a1, g1, p1, rfl, n1, m1, x1, y1⟩ := h1
  obtain ⟨a2, g2, p2, rfl, n2, m2, x2, y2⟩ := h2
  by_cases hl : l.length = m.length
  case neg =>
    rw [decide_eq_false (fun e => hl (by rw [e]))]
    have hne : ((l.length : Int) == (m.length : Int)) = false := by simp; omega
    obtain ⟨a, ha⟩ : ∃ a, a = l.length := ⟨_, rfl⟩
    obtain ⟨b, hb⟩ : ∃ b, b = m.length := ⟨_, rfl⟩
    rw [← ha] at hne n1 ⊢
    rw [← hb] at hne n2 ⊢
    clear hl x1 x2 y1 y2 ha hb
    go_enter Try.func28, Try.ntmps28
    go_wp2
    go_ret
    exact ⟨rfl, Kp.refl _⟩
  rw [← hl] at n2 x2 y2 ⊢
  obtain ⟨D, hD⟩ : ∃ D, D = decide (l = m) := ⟨_, rfl⟩
  rw [← hD]
  have HD : Hid (D = decide (l = m)) := hD
  have H1 : Hid (∀ j, j < l.length → w.cell? ⟨g1, j, none⟩ = some (.int .i64 (l.getD j 0))) := y1
  have H2 : Hid (∀ j, j < l.length → w.cell? ⟨g2, j, none⟩ = some (.int .i64 (m.getD j 0))) := y2
  have HQ : Hid ((∀ j, j < l.length → l.getD j 0 = m.getD j 0) → l = m) := fun h => by
    apply List.ext_getElem?
    intro j
    by_cases hj : j < l.length
    · have := h j hj
      rw [List.getElem?_eq_getElem hj, List.getElem?_eq_getElem (by omega)]
      simpa [List.getD_eq_getElem?_getD, hj, show j < m.length by omega] using this
    · rw [List.getElem?_eq_none (by omega), List.getElem?_eq_none (by omega)]
  obtain ⟨N, hN⟩ : ∃ N, N = l.length := ⟨_, rfl⟩
  rw [← hN] at n1 n2 x1 x2 H1 H2 HQ ⊢
  clear hD y1 y2 hl hN
  go_enter Try.func28, Try.ntmps28
  go_wp2
  go_loopw [13] (fun i wr => ∃ k : Nat, k ≤ N ∧ i = .int .i64 k ∧ Hid (∀ j, j < k → l.getD j 0 = m.getD j 0) ∧ Kp w wr) (fun i _ => N - (intOf i).toNat)
  case atStart => exact ⟨0, Nat.zero_le _, rfl, fun j hj => absurd hj (by omega), Kp.refl w⟩
  case round =>
    obtain ⟨k, hk, rfl, HE, hK⟩ := hrel
    by_cases hlt : k < N
    · obtain rfl := x1 (by omega)
      obtain rfl := x2 (by omega)
      have c0 := hK.held (H1.out k hlt)
      have c1 := hK.held (H2.out k hlt)
      by_cases he : l.getD k 0 = m.getD k 0
      · have HE2 : Hid (∀ j, j < k + 1 → l.getD j 0 = m.getD j 0) := fun j hj => by
          by_cases e : j = k
          · rw [e]; exact he
          · exact HE.out j (by omega)
        rw [← he] at c1
        obtain ⟨x, hx⟩ : ∃ x, x = l.getD k 0 := ⟨_, rfl⟩
        rw [← hx] at c0 c1
        clear HE he hx
        go_wp2_with fail
        go_quiet (fail)
        go_wp2
        go_roundw
        case rel => exact ⟨k + 1, by omega, by go_num, HE2, hK.drewN _⟩
        case measure => simp [intOf]; omega
      · have HF : Hid (D = false) := by rw [HD.out]; exact decide_eq_false (fun e => he (by rw [e]))
        obtain ⟨x, hx⟩ : ∃ x, x = l.getD k 0 := ⟨_, rfl⟩
        obtain ⟨y, hy⟩ : ∃ y, y = m.getD k 0 := ⟨_, rfl⟩
        rw [← hx] at c0 he
        rw [← hy] at c1 he
        have he2 : (x == y) = false := beq_eq_false_iff_ne.2 he
        clear HE hx hy he HD
        go_wp2_with fail
        go_quiet (fail)
        go_wp2
        go_ret
        exact ⟨by rw [HF.out]; rfl, hK.drewN _⟩
    · obtain rfl : k = N := by omega
      have HF : Hid (D = true) := by rw [HD.out]; exact decide_eq_true (HQ.out HE.out)
      clear HE HD
      go_wp2
      go_ret
      exact ⟨by rw [HF.out]; rfl, hK⟩
theorem load_two {P : Program} {w : World} {b : Nat} (p q : Value) (h0 : w.cell? ⟨b, 0, none⟩ = some p) (h1 : w.cell? ⟨b, 1, none⟩ = some q) (ty : TypeId) (fs : Array Field) (hu : P.underlying ty = some (.struct fs)) (hi : (P.info? ty).map (·.size) = some 2) :
    (loadVar ty ⟨b, 0, none⟩).run P w = .ok (.agg #[p, q]) w := by
  have hl : (loadCells ⟨b, 0, none⟩ [p, q].length).run P w = .ok [p, q].toArray w :=
    run_loadCells_list (P := P) w ⟨b, 0, none⟩ [p, q] (fun j x hx => by
      have hadd : (⟨b, 0, none⟩ : Addr).add j = ⟨b, j, none⟩ := by unfold Addr.add; split <;> simp_all
      rw [hadd]
      match j, hx with
      | 0, hx => simp at hx; rw [h0, hx]
      | 1, hx => simp at hx; rw [h1, hx])
  cases hq : P.info? ty with
  | none => simp [hq] at hi
  | some i =>
    have hs : i.size = 2 := by simpa [hq] using hi
    have hagg : (isAgg ty).run P w = .ok true w := by
      unfold isAgg
      rw [Sem.run_bind, run_underlying hu w]
      rfl
    rw [show [p, q].length = 2 from rfl] at hl
    simp [loadVar, Sem.run_bind, hagg, sizeOf, typeInfo, hq, hs, hl]
theorem size_gm : (Try.prog.info? 24).map (·.size) = some 2 := by kernel_rfl
theorem results_gm {fn : Func} {t : Tmp} (h : fn.results = #[.cell t 24]) (tmps : Array Value) (w : World) (b : Nat) (p q : Value) (hp : tmps.getD t undef = .pointer (some ⟨b, 0, none⟩)) (h0 : w.cell? ⟨b, 0, none⟩ = some p) (h1 : w.cell? ⟨b, 1, none⟩ = some q) :
    (results fn tmps).run Try.prog w = .ok (.agg #[p, q]) w := by
  have hp' : tmps[t]?.getD undef = .pointer (some ⟨b, 0, none⟩) := by simpa using hp
  simp [results, h, hp', asAddr, load_two p q h0 h1 24 _ Try.underlying24 size_gm]
def gN (a : Int) : Int := 4 + max 0 a % 29
def gS (a : Int) : Int := 1 + max 0 a % 64
theorem gN_bd (a : Int) : 4 ≤ gN a ∧ gN a ≤ 32 := by unfold gN; omega
theorem gS_bd (a : Int) : 1 ≤ gS a ∧ gS a ≤ 64 := by unfold gS; omega
theorem gg_made (a b : Int) : gg (gN a) (gS b) = true := (gg_iff _ _).2 ⟨(gN_bd a).1, (gN_bd a).2, (gS_bd b).1, (gS_bd b).2⟩
set_option maxRecDepth 100000 in
set_option maxHeartbeats 2000000 in
theorem made_any (a b : Int) (w : World) : Calls Try.prog 16 #[.agg #[.int .i64 a, .int .i64 b]] w fun e w' => e = .returned (gV (gN a) (gS b)) ∧ Kp w w' := by
  have hmax := @imax Try.prog
  have e1 : (max 0 a).tmod 29 = max 0 a % 29 := Int.tmod_eq_emod_of_nonneg (by omega)
  have e2 : (max 0 b).tmod 64 = max 0 b % 64 := Int.tmod_eq_emod_of_nonneg (by omega)
  unfold gV gN gS
  go_enter Try.func16, Try.ntmps16
  go_wp2
  refine bodyPost_ret (results_gm rfl _ _ (w.heap.size + 1) (.int .i64 (4 + max 0 a % 29)) (.int .i64 (1 + max 0 b % 64)) rfl ?_ ?_) rfl ?_
  iterate 2 (rw [World.cell?_alloc_at _ _ _ _ (by simp)]; rfl)
  exact ⟨rfl, ((Kp.refl w).alloc _).alloc _⟩
set_option maxRecDepth 100000 in
set_option maxHeartbeats 2000000 in
theorem wakes_any (w : World) : Calls Try.prog 10 #[] w fun e w' => e = .returned (.bool true) ∧ Kp w w' := by
  have hR := row_any 5 2 1 w
  rw [show row 5 2 1 = ([0, 1, 2, 3, 4], 0) from by decide] at hR
  unfold gV at hR
  go_enter Try.func10, Try.ntmps10
  go_wp2_with fail
  refine hR.mono ?_; rintro e w1 ⟨v, rfl, hv, k1⟩
  have HE : Hid (∀ t, Calls Try.prog 28 #[v, .slice (some ⟨w1.heap.size, 0, none⟩) 5 5] (w1.alloc (.cells #[.int .i64 0, .int .i64 1, .int .i64 2, .int .i64 3, .int .i64 4] t)) fun e w' => e = .returned (.bool true) ∧ Kp w1 w') := fun t => by
    have h2 : InI (w1.alloc (.cells #[.int .i64 0, .int .i64 1, .int .i64 2, .int .i64 3, .int .i64 4] t)) (.slice (some ⟨w1.heap.size, 0, none⟩) 5 5) [0, 1, 2, 3, 4] :=
      ⟨_, w1.heap.size, 5, rfl, by simp, by omega, fun _ => rfl, fun j hj => by
        rw [World.cell?_alloc_at _ _ _ _ rfl]
        have h : j = 0 ∨ j = 1 ∨ j = 2 ∨ j = 3 ∨ j = 4 := by simp at hj; omega
        rcases h with rfl | rfl | rfl | rfl | rfl <;> rfl⟩
    have := equal_any v _ [0, 1, 2, 3, 4] [0, 1, 2, 3, 4] _ (hv.kept ((Kp.refl w1).alloc (.cells #[.int .i64 0, .int .i64 1, .int .i64 2, .int .i64 3, .int .i64 4] t))) h2
    exact this.mono fun e w' ⟨h, k⟩ => ⟨by simpa using h, ((Kp.refl w1).alloc _).trans k⟩
  clear hR hv
  go_wp2_with fail
  refine (HE.out _).mono ?_; rintro e w2 ⟨rfl, k2⟩
  have K2 := k1.trans k2
  clear HE k1 k2
  go_wp2
  go_ret
  exact ⟨rfl, K2⟩

end Go.Proofs.Ytbagjfmhaclaeaa
