/-
  Contracts of a member's calls: Counts, Read. Conditions: that the member lies in memory, its lock free.
-/
import Derived.Test.YtmklkdopmemfaaaMmOne
namespace Go.Proofs.Ytmklkdopmemfaaa
open Go.RowKit Plain Go.RwLone
set_option linter.unusedVariables false

theorem Kp.set {w w1 : World} (h : Kp w w1) (B o : Nat) (hB : w.heap.size ≤ B) (v : Value) : Kp w (w1.setCell ⟨B, o, none⟩ v) := Below.setCell h (p := ⟨B, o, none⟩) hB v
/-- the counts told. -/
def cV (c : Nat → Int) : Value := .agg #[.int .i64 (c 0), .int .i64 (c 1), .int .i64 (c 2), .int .i64 (c 3)]

/-! ### Read -/
theorem text_at {w : World} {g : Nat} {L : List ByteArray} (h : SecIn w g L) (i : Nat) (hi : i < L.length) (c : Nat) : (convert 103 9 (.slice (some ⟨g, i * 64, none⟩) 64 c)).run Try.prog w = .ok (.string (L.getD i noS)) w := by
  have hz := h.z _ (getD_mem hi)
  have hr := h.c i hi
  obtain ⟨s, hs⟩ : ∃ s, s = L.getD i noS := ⟨_, rfl⟩
  rw [← hs] at hz hr ⊢
  have := run_convert_bytes_arg (P := Try.prog) w 103 5 Try.underlying103 Try.underlying5 g (i * 64) 64 c ((List.range 64).map fun (j : Nat) => ((bAt s (j : Int) : Nat) : Int)) (by simp) (fun j hj => ?_) 9 Try.underlying9
  · rw [this]
    have e := bs_self s
    rw [hz] at e
    show Result.ok (Value.string (bs 64 fun j => bAt s (j : Int))) w = _
    rw [e]
  · have hl : (byteCells s)[j]? = some (.int .u8 ((bAt s (j : Int) : Nat) : Int)) := by
      have h2 : j < s.data.toList.length := by simpa using (show j < s.size by omega)
      unfold byteCells
      rw [List.getElem?_map, List.getElem?_eq_getElem h2, bAt_nat s j (by omega)]
      rfl
    rw [hr j _ hl]
    simp [List.getD_eq_getElem?_getD, hj]
set_option maxRecDepth 100000 in
theorem read_any {w : World} {b bn bl : Nat} {rv : Value} {S : MS} (h : MemIn w b bn bl rv S 0 0) (k : Int) : Calls Try.prog 13 #[.pointer (some ⟨b, 0, none⟩), .int .i64 k] w fun e w' => e = .returned (.tuple #[.string (rdS S k), .int .i64 (rcE S k)]) ∧ Md w w' b bn bl rv (rd S k) := by
  by_cases hE : rcE S k = 0
  · have e1 : rdS S k = S.now.getD k.toNat noS := if_pos hE
    have e2 : rd S k = ⟨S.now, S.las, S.row, S.dead, up S.c 0⟩ := if_pos hE
    obtain ⟨_, h0, h1⟩ := rc_ok hE
    rw [e1, e2]
    obtain ⟨i, rfl⟩ : ∃ i : Nat, k = (i : Int) := ⟨k.toNat, by omega⟩
    have hi : i < S.now.length := by rw [h.fine.nn]; omega
    have hn2 := h.fine.n2
    rw [Int.toNat_natCast]
    obtain ⟨s, hs⟩ : ∃ s, s = S.now.getD i noS := ⟨_, rfl⟩
    rw [← hs]
    have HS : Hid (s = S.now.getD i noS) := hs
    have HE : Hid (rcE S (i : Int) = 0) := hE
    clear hs hE e1 e2
    go_enter_defers Try.func13, Try.ntmps13
    go_wp2_with fail
    refine (rlock_any h).mono ?_
    rintro e w1 ⟨rfl, h1', k1⟩
    go_wp2_with fail
    refine (reach_any h1' _).mono ?_
    rintro e w2 ⟨rfl, k2⟩
    rw [HE.out]
    have h2 := h1'.kp k2
    go_wp2_with fail
    refine (count_any h2 0 (by omega)).mono ?_
    rintro e w3 ⟨⟨v, rfl⟩, h3, k3⟩
    have cN := h3.cN
    have cv := text_at h3.sn i hi 64
    rw [← HS.out] at cv
    have hlen : (i : Int) < (S.las.length : Int) := h1
    go_wp2_with fail
    refine leaves_cons (f := 41) (args := #[.pointer (some ⟨b, 4, none⟩)]) (by simp) (by simp [go_sem]) ?_
    refine (runlock_any h3 .returning).mono ?_
    rintro e u' w4 ⟨rfl, rfl, h4, k4⟩
    refine ⟨_, results_tmp2 rfl _ _ _, ?_, Md.same h4 (((k1.trans (k2.sp _)).trans k3).trans k4).b⟩
    rw [HE.out]
    rfl
  · have e1 : rdS S k = ByteArray.empty := if_neg hE
    have e2 : rd S k = S := if_neg hE
    rw [e1, e2]
    have hr := fun w1 (h1 : MemIn w1 b bn bl rv S 0 1) => reach_any h1 k
    obtain ⟨E, hEE⟩ : ∃ E, E = rcE S k := ⟨_, rfl⟩
    rw [← hEE] at hE hr ⊢
    have hE2 : (E == 0) = false := by simpa using hE
    clear hEE hE e1 e2
    go_enter_defers Try.func13, Try.ntmps13
    go_wp2_with fail
    refine (rlock_any h).mono ?_
    rintro e w1 ⟨rfl, h1', k1⟩
    go_wp2_with fail
    refine (hr _ h1').mono ?_
    rintro e w2 ⟨rfl, k2⟩
    have h2 := h1'.kp k2
    go_wp2_with fail
    refine leaves_cons (f := 41) (args := #[.pointer (some ⟨b, 4, none⟩)]) (by simp) (by simp [go_sem]) ?_
    refine (runlock_any h2 .returning).mono ?_
    rintro e u' w4 ⟨rfl, rfl, h4, k4⟩
    exact ⟨_, results_tmp2 rfl _ _ _, rfl, Md.same h4 ((k1.trans (k2.sp _)).trans k4).b⟩

end Go.Proofs.Ytmklkdopmemfaaa
