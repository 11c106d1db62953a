/-
  Contracts of the document's Numbers, Upto, Of, Change and Both: sets by their numbers. Condition: that a list's cells hold its numbers.
-/
import Derived.Test.YtekbhgcnobiplaaDoorMkArr
import Derived.Test.YtekbhgcnobiplaaDoorMkOf
namespace Go.Proofs.YtekbhgcnobiplaaDoor
open Go.RowKit Plain
set_option linter.unusedVariables false

theorem size_256 : (Tryd.prog.info? 52).map (·.size) = some 256 := by kernel_rfl
theorem size_bA (f : Nat → Bool) : (Tryd.prog.info? 52).map (·.size) = some (bA f).size := by rw [bA_size]; exact size_256
theorem bA_one (f : Nat → Bool) : (bA f).all (·.oneCell') = true := by
  unfold bA
  simp [Value.oneCell']
theorem Kp.row {a b : World} (h : Kp a b) {c : Nat} (hc : a.heap.size ≤ c) (cs : Array Value) : Kp a (b.setRow c cs) :=
  h.grown (row := some c) ⟨rfl, rfl, rfl, by simp, fun k _ hk => setRow_other b c k cs (fun e => hk (by rw [e]))⟩ (fun k hk => by cases hk; exact hc)
def cutF (k : Nat) (f : Nat → Bool) (i : Nat) : Bool := decide (i < k) && f i
theorem cutF_step (k : Nat) (f : Nat → Bool) (i : Nat) : updB (cutF k f) k (f k) i = cutF (k + 1) f i := by
  unfold updB cutF
  by_cases e : i = k
  · subst e; rw [if_pos rfl, decide_eq_true (by omega)]; simp
  · rw [if_neg e]; congr 1; exact decide_eq_decide.2 (by omega)
set_option maxRecDepth 100000 in
set_option maxHeartbeats 4000000 in
theorem numbers_any (f : Nat → Bool) (w : World) : Calls Tryd.prog 34 #[SV f] w fun e w' => e = .returned (.agg (bA f)) ∧ Kp w w' := by
  have hz := zero_256
  obtain ⟨w0, hw0⟩ : ∃ w0, w0 = ((w.alloc (.cells (w4 (wd f)) 24)).alloc (.cells (bA noF) 52)).alloc (.cells (bA noF) 52) := ⟨_, rfl⟩
  have k0 : Kp w w0 := by rw [hw0]; exact (((Kp.refl w).alloc _).alloc _).alloc _
  have a1 : A4 w0 w.heap.size (wd f) := by rw [hw0]; exact ((A4.new w _ _).alloc _).alloc _
  have b2 : B256 w0 (w.heap.size + 1) noF := by
    have := (B256.new (w.alloc (.cells (w4 (wd f)) 24)) noF).kept ((Kp.refl _).alloc (.cells (bA noF) 52))
    rw [hw0]; simpa using this
  have b3 : B256 w0 (w.heap.size + 2) noF := by
    have := B256.new ((w.alloc (.cells (w4 (wd f)) 24)).alloc (.cells (bA noF) 52)) noF
    rw [hw0]; simpa using this
  have HW : Hid (w0 = ((w.alloc (.cells (w4 (wd f)) 24)).alloc (.cells (bA noF) 52)).alloc (.cells (bA noF) 52)) := hw0
  clear hw0
  have hH := rhas_in f
  unfold SV at hH ⊢
  go_enter Tryd.func34, Tryd.ntmps34
  go_wp2
  rw [show ((w.alloc (.cells #[.int .u64 ((wd f 0 : Nat) : Int), .int .u64 ((wd f 1 : Nat) : Int), .int .u64 ((wd f 2 : Nat) : Int), .int .u64 ((wd f 3 : Nat) : Int)] 24)).alloc (.cells (bA noF) 52)).alloc (.cells (bA noF) 52) = w0 from HW.out.symm]
  clear HW hz
  go_loopw [4] (fun i wr => ∃ k : Nat, k ≤ 256 ∧ i = .int .i64 k ∧ B256 wr (w.heap.size + 2) (cutF k f) ∧ B256 wr (w.heap.size + 1) noF ∧ A4 wr w.heap.size (wd f) ∧ Kp w wr) (fun i _ => 256 - (intOf i).toNat)
  case atStart => exact ⟨0, by omega, rfl, b3.congr (fun i _ => by unfold cutF noF; rw [decide_eq_false (by omega)]; rfl), b2, a1, k0⟩
  case round =>
    clear b2 b3 a1 k0
    obtain ⟨k, hk, rfl, h1, h2, h3, hK⟩ := hrel
    by_cases hlt : k < 256
    · obtain ⟨c0, c1, c2, c3⟩ := h3.cells
      have hN := hH k hlt wr
      have HZ : Hid (∀ W, Kp wr W → W.cell? ⟨w.heap.size + 2, k, none⟩ = some (.bool (cutF k f k)) ∧ W.frozen? ⟨w.heap.size + 2, k, none⟩ = false ∧ B256 (W.setCell ⟨w.heap.size + 2, k, none⟩ (.bool (f k))) (w.heap.size + 2) (cutF (k + 1) f) ∧ B256 (W.setCell ⟨w.heap.size + 2, k, none⟩ (.bool (f k))) (w.heap.size + 1) noF ∧ A4 (W.setCell ⟨w.heap.size + 2, k, none⟩ (.bool (f k))) w.heap.size (wd f) ∧ Kp w (W.setCell ⟨w.heap.size + 2, k, none⟩ (.bool (f k)))) := fun W hw =>
        ⟨(h1.kept hw).c k hlt, (h1.kept hw).z k, ((h1.kept hw).set k (f k) hlt).congr (fun i _ => cutF_step k f i), (h2.kept hw).far (by omega) _ _, (h3.kept hw).far (by omega) _ _, (hK.trans hw).set (by omega) _ _⟩
      clear h1 h2 h3 hK hH
      obtain ⟨b, hb⟩ : ∃ b, b = f k := ⟨_, rfl⟩
      rw [← hb] at HZ hN
      clear hb
      go_wp2_with fail
      refine hN.mono ?_; rintro e W ⟨rfl, kW⟩
      obtain ⟨d0, z0, HR0⟩ := HZ.out W kW
      have HR : Hid (B256 (W.setCell ⟨w.heap.size + 2, k, none⟩ (.bool b)) (w.heap.size + 2) (cutF (k + 1) f) ∧ B256 (W.setCell ⟨w.heap.size + 2, k, none⟩ (.bool b)) (w.heap.size + 1) noF ∧ A4 (W.setCell ⟨w.heap.size + 2, k, none⟩ (.bool b)) w.heap.size (wd f) ∧ Kp w (W.setCell ⟨w.heap.size + 2, k, none⟩ (.bool b))) := HR0
      clear HR0 HZ kW c0 c1 c2 c3 hN
      go_wp2
      go_roundw
      case rel => exact ⟨k + 1, by omega, by go_num, HR.out⟩
      case measure => simp [intOf]; omega
    · obtain rfl : k = 256 := by omega
      have h1' : B256 wr (w.heap.size + 2) f := h1.congr (fun i hi => by unfold cutF; rw [decide_eq_true hi]; rfl)
      have hg1 := h1'.h
      have hg2 := h2.h
      have HA : Hid ((wr.setRow (w.heap.size + 1) (bA f)).heap[w.heap.size + 1]? = some (.cells (bA f) 52 (0, 0)) ∧ Kp w (wr.setRow (w.heap.size + 1) (bA f))) := ⟨setRow_heap wr _ _ (bA f) _ _ h2.h, hK.row (by omega) _⟩
      clear h1 h1' h2 h3 hK hH
      go_wp2_with (first
        | refine wpList_load_row rfl 52 _ rfl (w.heap.size + 2) rfl 52 (bA f) (0, 0) _ hg1 Tryd.underlying52 rfl (size_bA f) ?_
        | refine wpList_store_row rfl 52 _ _ rfl (w.heap.size + 1) (bA f) rfl rfl 52 (bA noF) hg2 (size_bA f) (by rw [bA_size, bA_size]) (bA_one f) ?_)
      refine bodyPost_ret (results_cell_row rfl _ _ (w.heap.size + 1) 52 (bA f) (0, 0) _ rfl HA.out.1 Tryd.underlying52 rfl (size_bA f)) rfl ?_
      exact ⟨rfl, HA.out.2⟩

/-! ### Upto -/
def ltF (k : Nat) (i : Nat) : Bool := decide (i < k)
theorem ltF_step (k i : Nat) : updB (ltF k) k true i = ltF (k + 1) i := by
  unfold updB ltF
  by_cases e : i = k
  · subst e; rw [if_pos rfl, decide_eq_true (by omega)]
  · rw [if_neg e]; exact decide_eq_decide.2 (by omega)
set_option maxRecDepth 100000 in
set_option maxHeartbeats 4000000 in
theorem rupto_any (n : Int) (w : World) : Calls Tryd.prog 9 #[.int .i64 n] w fun e w' => e = .returned (SV (upF n)) ∧ Kp w w' := by
  have hz := zero_256
  obtain ⟨w0, hw0⟩ : ∃ w0, w0 = (w.alloc (.cells (w4 no4) 24)).alloc (.cells (bA noF) 52) := ⟨_, rfl⟩
  have k0 : Kp w w0 := by rw [hw0]; exact ((Kp.refl w).alloc _).alloc _
  have a1 : A4 w0 w.heap.size no4 := by rw [hw0]; exact (A4.new w _ _).alloc _
  have b2 : B256 w0 (w.heap.size + 1) noF := by
    have := B256.new (w.alloc (.cells (w4 no4) 24)) noF
    rw [hw0]; simpa using this
  have HW : Hid (w0 = (w.alloc (.cells (w4 no4) 24)).alloc (.cells (bA noF) 52)) := hw0
  clear hw0
  unfold SV
  go_enter Tryd.func9, Tryd.ntmps9
  go_wp2
  rw [show (w.alloc (.cells #[.int .u64 0, .int .u64 0, .int .u64 0, .int .u64 0] 24)).alloc (.cells (bA noF) 52) = w0 from HW.out.symm]
  clear HW hz
  go_loopw [4] (fun i wr => ∃ k : Nat, k ≤ 256 ∧ (0 < k → (k : Int) ≤ n) ∧ i = .int .i64 k ∧ B256 wr (w.heap.size + 1) (ltF k) ∧ A4 wr w.heap.size no4 ∧ Kp w wr) (fun i _ => 256 - (intOf i).toNat)
  case atStart => exact ⟨0, by omega, fun h => absurd h (by omega), rfl, b2.congr (fun i _ => by unfold ltF noF; rw [decide_eq_false (by omega)]), a1, k0⟩
  case round =>
    clear b2 a1 k0
    obtain ⟨k, hk, hkn, rfl, h1, h2, hK⟩ := hrel
    by_cases hlt : k < 256 ∧ (k : Int) < n
    · obtain ⟨hlt1, hlt2⟩ := hlt
      have c := h1.c k hlt1
      have z := h1.z k
      have HR : Hid (B256 (wr.setCell ⟨w.heap.size + 1, k, none⟩ (.bool true)) (w.heap.size + 1) (ltF (k + 1)) ∧ A4 (wr.setCell ⟨w.heap.size + 1, k, none⟩ (.bool true)) w.heap.size no4 ∧ Kp w (wr.setCell ⟨w.heap.size + 1, k, none⟩ (.bool true))) :=
        ⟨(h1.set k true hlt1).congr (fun i _ => ltF_step k i), h2.far (by omega) _ _, hK.set (by omega) _ _⟩
      clear h1 h2 hK hkn
      go_wp2
      go_roundw
      case rel => exact ⟨k + 1, by omega, fun _ => by omega, by go_num, HR.out⟩
      case measure => simp [intOf]; omega
    · have HE : Hid (∀ i, i < 256 → ltF k i = upF n i) := fun i hi => by
        unfold ltF upF
        exact decide_eq_decide.2 (by omega)
      have hg1 := h1.h
      have hW := words_any (ltF k)
      rw [SV_congr HE.out] at hW
      unfold SV at hW
      have HZ : Hid (∀ W, Kp wr W → A4 W w.heap.size no4 ∧ A4 (put4 W w.heap.size (wd (upF n))) w.heap.size (wd (upF n)) ∧ Kp w (put4 W w.heap.size (wd (upF n)))) := fun W hw => ⟨h2.kept hw, (h2.kept hw).put _, (hK.trans hw).put4 (by omega) _⟩
      clear h1 h2 hK HE hkn
      by_cases hlt1 : k < 256
      · have hlt2 : n ≤ (k : Int) := by omega
        clear hlt
        go_wp2_with (first
          | (go_at_call 32; refine (hW _).mono ?_; rintro e W ⟨rfl, kW⟩; obtain ⟨aW, HR0⟩ := HZ.out W kW; obtain ⟨d0, d1, d2, d3⟩ := aW.cells; have z3 := aW.z)
          | refine wpList_load_row rfl 52 _ rfl (w.heap.size + 1) rfl 52 (bA (ltF k)) (0, 0) _ hg1 Tryd.underlying52 rfl (size_bA _) ?_)
        refine bodyPost_ret (results_words rfl _ _ w.heap.size (wd (upF n)) rfl HR0.1) rfl ?_
        exact ⟨rfl, HR0.2⟩
      · obtain rfl : k = 256 := by omega
        clear hlt hlt1
        go_wp2_with (first
          | (go_at_call 32; refine (hW _).mono ?_; rintro e W ⟨rfl, kW⟩; obtain ⟨aW, HR0⟩ := HZ.out W kW; obtain ⟨d0, d1, d2, d3⟩ := aW.cells; have z3 := aW.z)
          | refine wpList_load_row rfl 52 _ rfl (w.heap.size + 1) rfl 52 (bA (ltF 256)) (0, 0) _ hg1 Tryd.underlying52 rfl (size_bA _) ?_)
        refine bodyPost_ret (results_words rfl _ _ w.heap.size (wd (upF n)) rfl HR0.1) rfl ?_
        exact ⟨rfl, HR0.2⟩

end Go.Proofs.YtekbhgcnobiplaaDoor
