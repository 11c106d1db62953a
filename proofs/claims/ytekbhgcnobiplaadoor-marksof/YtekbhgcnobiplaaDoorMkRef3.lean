/-
  Contracts of the document's Of and Change: the set of a list's numbers, a set with and without a number. Condition: that the list's cells hold its numbers.
-/
import Derived.Test.YtekbhgcnobiplaaDoorMkRef2
namespace Go.Proofs.YtekbhgcnobiplaaDoor
open Go.RowKit Plain
set_option linter.unusedVariables false

theorem of_step_in (l : List Int) (k x : Nat) (hx : (x : Int) = l.getD k 0) (h : k < l.length) (i : Nat) : updB (inL (l.take k)) x true i = inL (l.take (k + 1)) i := by
  rw [take_succ_int l k h, inL_app, ← hx]
  unfold updB
  by_cases e : i = x
  · subst e; rw [if_pos rfl]; simp
  · rw [if_neg e]
    have : ((x : Int) == (i : Int)) = false := by rw [beq_eq_false_iff_ne]; omega
    rw [this, Bool.or_false]
theorem of_step_out (l : List Int) (k : Nat) (hx : ¬ (0 ≤ l.getD k 0 ∧ l.getD k 0 ≤ 255)) (h : k < l.length) (i : Nat) (hi : i < 256) : inL (l.take k) i = inL (l.take (k + 1)) i := by
  rw [take_succ_int l k h, inL_app]
  have : (l.getD k 0 == (i : Int)) = false := by rw [beq_eq_false_iff_ne]; omega
  rw [this, Bool.or_false]
set_option maxRecDepth 100000 in
set_option maxHeartbeats 4000000 in
theorem rof_at (a : Option Addr) (b off cap : Nat) (l : List Int) (hm : l.length ≤ 9223372036854775807) (ha : 0 < l.length → a = some ⟨b, off, none⟩) (w : World) (hc : ∀ i, i < l.length → w.cell? ⟨b, off + i, none⟩ = some (.int .i64 (l.getD i 0))) :
    Calls Tryd.prog 17 #[.slice a l.length cap] w fun e w' => e = .returned (SV (inL l)) ∧ Kp w w' := by
  have hz := zero_256
  obtain ⟨w0, hw0⟩ : ∃ w0, w0 = (w.alloc (.cells (w4 no4) 24)).alloc (.cells (bA noF) 52) := ⟨_, rfl⟩
  have k0 : Kp w w0 := by rw [hw0]; exact ((Kp.refl w).alloc _).alloc _
  have a1 : A4 w0 w.heap.size no4 := by rw [hw0]; exact (A4.new w _ _).alloc _
  have b2 : B256 w0 (w.heap.size + 1) noF := by
    have := B256.new (w.alloc (.cells (w4 no4) 24)) noF
    rw [hw0]; simpa using this
  have HW : Hid (w0 = (w.alloc (.cells (w4 no4) 24)).alloc (.cells (bA noF) 52)) := hw0
  clear hw0
  obtain ⟨n, hn⟩ : ∃ n, n = l.length := ⟨_, rfl⟩
  rw [← hn] at hm ha ⊢
  have HC : Hid (∀ i, i < n → w.cell? ⟨b, off + i, none⟩ = some (.int .i64 (l.getD i 0))) := fun i hi => hc i (by omega)
  have HN : Hid (n = l.length) := hn
  clear hc hn
  unfold SV
  go_enter Tryd.func17, Tryd.ntmps17
  go_wp2
  rw [show (w.alloc (.cells #[.int .u64 0, .int .u64 0, .int .u64 0, .int .u64 0] 24)).alloc (.cells (bA noF) 52) = w0 from HW.out.symm]
  clear HW hz
  go_loopw [4] (fun i wr => ∃ k : Nat, k ≤ n ∧ i = .int .i64 k ∧ B256 wr (w.heap.size + 1) (inL (l.take k)) ∧ A4 wr w.heap.size no4 ∧ Kp w wr) (fun i _ => n - (intOf i).toNat)
  case atStart => exact ⟨0, by omega, rfl, b2.congr (fun i _ => rfl), a1, k0⟩
  case round =>
    clear b2 a1 k0
    obtain ⟨k, hk, rfl, h1, h2, hK⟩ := hrel
    by_cases hlt : k < n
    · obtain rfl := ha (by omega)
      have hci := hK.held (HC.out k hlt)
      have hkl : k < l.length := by rw [← HN.out]; exact hlt
      by_cases hin : 0 ≤ l.getD k 0 ∧ l.getD k 0 ≤ 255
      · obtain ⟨x, hx⟩ : ∃ x : Nat, (x : Int) = l.getD k 0 := ⟨(l.getD k 0).toNat, by omega⟩
        have hx1 : x < 256 := by omega
        rw [← hx] at hci
        have c := h1.c x hx1
        have z := h1.z x
        have HR : Hid (B256 (wr.setCell ⟨w.heap.size + 1, x, none⟩ (.bool true)) (w.heap.size + 1) (inL (l.take (k + 1))) ∧ A4 (wr.setCell ⟨w.heap.size + 1, x, none⟩ (.bool true)) w.heap.size no4 ∧ Kp w (wr.setCell ⟨w.heap.size + 1, x, none⟩ (.bool true))) :=
          ⟨(h1.set x true hx1).congr (fun i _ => of_step_in l k x hx hkl i), h2.far (by omega) _ _, hK.set (by omega) _ _⟩
        clear h1 h2 hK hin hx hkl
        go_wp2
        go_roundw
        case rel => exact ⟨k + 1, by omega, by go_num, HR.out⟩
        case measure => simp [intOf]; omega
      · have HR : Hid (B256 wr (w.heap.size + 1) (inL (l.take (k + 1))) ∧ A4 wr w.heap.size no4 ∧ Kp w wr) := ⟨h1.congr (fun i hi => of_step_out l k hin hkl i hi), h2, hK⟩
        obtain ⟨x, hx⟩ : ∃ x : Int, x = l.getD k 0 := ⟨_, rfl⟩
        rw [← hx] at hci hin
        clear h1 h2 hK hx hkl
        by_cases h0 : 0 ≤ x
        · have h255 : 255 < x := by omega
          clear hin
          go_wp2
          go_roundw
          case rel => exact ⟨k + 1, by omega, by go_num, HR.out⟩
          case measure => simp [intOf]; omega
        · have hneg : x < 0 := by omega
          clear hin h0
          go_wp2
          go_roundw
          case rel => exact ⟨k + 1, by omega, by go_num, HR.out⟩
          case measure => simp [intOf]; omega
    · obtain rfl : k = n := by omega
      rw [HN.out, List.take_length] at h1
      have hg1 := h1.h
      have hW := words_any (inL l)
      unfold SV at hW
      have HZ : Hid (∀ W, Kp wr W → A4 W w.heap.size no4 ∧ A4 (put4 W w.heap.size (wd (inL l))) w.heap.size (wd (inL l)) ∧ Kp w (put4 W w.heap.size (wd (inL l)))) := fun W hw => ⟨h2.kept hw, (h2.kept hw).put _, (hK.trans hw).put4 (by omega) _⟩
      clear h1 h2 hK ha
      go_wp2_with (first
          | (go_at_call 32; refine (hW _).mono ?_; rintro e W ⟨rfl, kW⟩; obtain ⟨aW, HR0⟩ := HZ.out W kW; obtain ⟨d0, d1, d2, d3⟩ := aW.cells; have z3 := aW.z)
          | refine wpList_load_row rfl 52 _ rfl (w.heap.size + 1) rfl 52 (bA (inL l)) (0, 0) _ hg1 Tryd.underlying52 rfl (size_bA _) ?_)
      refine bodyPost_ret (results_words rfl _ _ w.heap.size (wd (inL l)) rfl HR0.1) rfl ?_
      exact ⟨rfl, HR0.2⟩
theorem rof_any (v : Value) (l : List Int) (w : World) (h : IntsIn w v l) : Calls Tryd.prog 17 #[v] w fun e w' => e = .returned (SV (inL l)) ∧ Kp w w' := by
  cases h with
  | empty a cap h => exact rof_at a 0 0 cap [] (by simp) (fun h => absurd h (by simp)) w (fun i hi => absurd hi (by simp))
  | some b off cap l h0 h1 h2 hc => exact rof_at _ b off cap l (by unfold maxLen at h2; omega) (fun _ => rfl) w hc

/-! ### Change -/
def chF (f : Nat → Bool) (i : Int) (tb : Bool) (j : Nat) : Bool := if (j : Int) = i then tb else f j
theorem ch_with (f : Nat → Bool) (i : Int) (j : Nat) : chF f i true j = orF f (oneF i) j := by
  unfold chF orF oneF
  by_cases h : (j : Int) = i
  · rw [if_pos h, decide_eq_true h, Bool.or_true]
  · rw [if_neg h, decide_eq_false h, Bool.or_false]
theorem ch_without (f : Nat → Bool) (i : Int) (j : Nat) : chF f i false j = lessF f (oneF i) j := by
  unfold chF lessF oneF
  by_cases h : (j : Int) = i
  · rw [if_pos h, decide_eq_true h]; simp
  · rw [if_neg h, decide_eq_false h]; simp
theorem ch_upd (f : Nat → Bool) (n : Nat) (tb : Bool) (j : Nat) : updB f n tb j = chF f n tb j := by
  unfold updB chF
  by_cases e : j = n
  · rw [if_pos e, if_pos (by omega)]
  · rw [if_neg e, if_neg (by omega)]
set_option maxRecDepth 100000 in
set_option maxHeartbeats 4000000 in
theorem rchange_any (f : Nat → Bool) (i : Int) (tb : Bool) (w : World) : Calls Tryd.prog 13 #[SV f, .int .i64 i, .bool tb] w fun e w' => e = .returned (SV (chF f i tb)) ∧ Kp w w' := by
  have hz := zero_256
  obtain ⟨w0, hw0⟩ : ∃ w0, w0 = (w.alloc (.cells (w4 (wd f)) 24)).alloc (.cells (w4 no4) 24) := ⟨_, rfl⟩
  have k0 : Kp w w0 := by rw [hw0]; exact ((Kp.refl w).alloc _).alloc _
  have a2 : A4 w0 (w.heap.size + 1) no4 := by
    have := A4.new (w.alloc (.cells (w4 (wd f)) 24)) no4 24
    rw [hw0]; simpa using this
  have HW : Hid (w0 = (w.alloc (.cells (w4 (wd f)) 24)).alloc (.cells (w4 no4) 24)) := hw0
  clear hw0
  have hN := numbers_any f w0
  unfold SV at hN ⊢
  go_enter Tryd.func13, Tryd.ntmps13
  go_wp2_with fail
  rw [show (w.alloc (.cells #[.int .u64 ((wd f 0 : Nat) : Int), .int .u64 ((wd f 1 : Nat) : Int), .int .u64 ((wd f 2 : Nat) : Int), .int .u64 ((wd f 3 : Nat) : Int)] 24)).alloc (.cells #[.int .u64 0, .int .u64 0, .int .u64 0, .int .u64 0] 24) = w0 from HW.out.symm]
  clear HW
  refine hN.mono ?_; rintro e w1 ⟨rfl, k1⟩
  clear hN
  have hgn := heap_alloc_new w1 (.cells (bA noF) 52)
  have b1 : B256 ((w1.alloc (.cells (bA noF) 52)).setRow w1.heap.size (bA f)) w1.heap.size f := ⟨setRow_heap _ _ _ (bA f) _ _ hgn⟩
  have hs : w.heap.size + 1 < w1.heap.size := (a2.kept k1).lt
  have a3 : A4 ((w1.alloc (.cells (bA noF) 52)).setRow w1.heap.size (bA f)) (w.heap.size + 1) no4 := ((a2.kept k1).alloc _).of_block (setRow_other _ _ _ _ (by omega)) (by simp)
  have K1 : Kp w ((w1.alloc (.cells (bA noF) 52)).setRow w1.heap.size (bA f)) := ((k0.trans k1).alloc _).row (by have := (k0.trans k1).size; omega) _
  clear a2 k1 k0
  go_upto_region 2 with (refine wpList_store_row rfl 52 _ _ rfl w1.heap.size (bA f) rfl rfl 52 (bA noF) hgn (size_bA f) (by rw [bA_size, bA_size]) (bA_one f) ?_)
  obtain ⟨W2, hW2⟩ : ∃ W2, W2 = (w1.alloc (.cells (bA noF) 52)).setRow w1.heap.size (bA f) := ⟨_, rfl⟩
  rw [← hW2] at b1 a3 K1 ⊢
  clear hW2 hgn hz
  by_cases hin : 0 ≤ i ∧ i < 256
  · obtain ⟨n, rfl⟩ : ∃ n : Nat, i = n := ⟨i.toNat, by omega⟩
    have hn : n < 256 := by omega
    have c := b1.c n hn
    have z := b1.z n
    have b2 := b1.set n tb hn
    have hg1 := b2.h
    have hW := words_any (updB f n tb)
    rw [SV_congr (g := chF f n tb) (fun j _ => ch_upd f n tb j)] at hW
    have HZ : Hid (∀ W, Kp (W2.setCell ⟨w1.heap.size, n, none⟩ (.bool tb)) W → A4 W (w.heap.size + 1) no4 ∧ A4 (put4 W (w.heap.size + 1) (wd (chF f n tb))) (w.heap.size + 1) (wd (chF f n tb)) ∧ Kp w (put4 W (w.heap.size + 1) (wd (chF f n tb)))) := fun W hw =>
      ⟨(a3.far (by omega) _ _).kept hw, ((a3.far (by omega) _ _).kept hw).put _, ((K1.set (by omega) _ _).trans hw).put4 (by omega) _⟩
    unfold SV at hW
    clear b1 b2 a3 K1 hin
    go_wp2_with (first
      | (go_at_call 32; refine (hW _).mono ?_; rintro e W ⟨rfl, kW⟩; obtain ⟨aW, HR0⟩ := HZ.out W kW; obtain ⟨d0, d1, d2, d3⟩ := aW.cells; have z3 := aW.z)
      | refine wpList_load_row rfl 52 _ rfl w1.heap.size rfl 52 (bA (updB f n tb)) (0, 0) _ hg1 Tryd.underlying52 rfl (size_bA _) ?_)
    refine bodyPost_ret (results_words rfl _ _ (w.heap.size + 1) (wd (chF f n tb)) rfl HR0.1) rfl ?_
    exact ⟨rfl, HR0.2⟩
  · have hg1 := b1.h
    have hW := words_any f
    rw [SV_congr (g := chF f i tb) (fun j hj => by unfold chF; rw [if_neg (by omega)])] at hW
    have HZ : Hid (∀ W, Kp W2 W → A4 W (w.heap.size + 1) no4 ∧ A4 (put4 W (w.heap.size + 1) (wd (chF f i tb))) (w.heap.size + 1) (wd (chF f i tb)) ∧ Kp w (put4 W (w.heap.size + 1) (wd (chF f i tb)))) := fun W hw => ⟨a3.kept hw, (a3.kept hw).put _, (K1.trans hw).put4 (by omega) _⟩
    unfold SV at hW
    clear b1 a3 K1
    by_cases h0 : 0 ≤ i
    · have h1 : 255 < i := by omega
      clear hin
      go_wp2_with (first
        | (go_at_call 32; refine (hW _).mono ?_; rintro e W ⟨rfl, kW⟩; obtain ⟨aW, HR0⟩ := HZ.out W kW; obtain ⟨d0, d1, d2, d3⟩ := aW.cells; have z3 := aW.z)
        | refine wpList_load_row rfl 52 _ rfl w1.heap.size rfl 52 (bA f) (0, 0) _ hg1 Tryd.underlying52 rfl (size_bA _) ?_)
      refine bodyPost_ret (results_words rfl _ _ (w.heap.size + 1) (wd (chF f i tb)) rfl HR0.1) rfl ?_
      exact ⟨rfl, HR0.2⟩
    · have h1 : i < 0 := by omega
      clear hin h0
      go_wp2_with (first
        | (go_at_call 32; refine (hW _).mono ?_; rintro e W ⟨rfl, kW⟩; obtain ⟨aW, HR0⟩ := HZ.out W kW; obtain ⟨d0, d1, d2, d3⟩ := aW.cells; have z3 := aW.z)
        | refine wpList_load_row rfl 52 _ rfl w1.heap.size rfl 52 (bA f) (0, 0) _ hg1 Tryd.underlying52 rfl (size_bA _) ?_)
      refine bodyPost_ret (results_words rfl _ _ (w.heap.size + 1) (wd (chF f i tb)) rfl HR0.1) rfl ?_
      exact ⟨rfl, HR0.2⟩

end Go.Proofs.YtekbhgcnobiplaaDoor
