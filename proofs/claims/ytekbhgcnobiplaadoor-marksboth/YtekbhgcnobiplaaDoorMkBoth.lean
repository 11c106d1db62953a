/-
  Contracts of the document's Both: what one of two sets has, both, the first one alone. No condition.
-/
import Derived.Test.YtekbhgcnobiplaaDoorMkRef3
namespace Go.Proofs.YtekbhgcnobiplaaDoor
open Go.RowKit Plain
set_option linter.unusedVariables false

def orP (f g : Nat → Bool) (k i : Nat) : Bool := if i < k then orF f g i else f i
theorem orP_step (f g : Nat → Bool) (k i : Nat) : updB (orP f g k) k (orF f g k) i = orP f g (k + 1) i := by
  unfold updB orP
  by_cases e : i = k
  · subst e; rw [if_pos rfl, if_pos (by omega)]
  · rw [if_neg e]
    by_cases e2 : i < k
    · rw [if_pos e2, if_pos (by omega)]
    · rw [if_neg e2, if_neg (by omega)]
set_option maxRecDepth 100000 in
set_option maxHeartbeats 8000000 in
theorem ror_any (f g : Nat → Bool) (w : World) : Calls Tryd.prog 20 #[SV f, SV g, .int .i64 0] w fun e w' => e = .returned (SV (orF f g)) ∧ Kp w w' := by
  have hz := zero_256
  obtain ⟨w0, hw0⟩ : ∃ w0, w0 = ((w.alloc (.cells (w4 (wd f)) 24)).alloc (.cells (w4 (wd g)) 24)).alloc (.cells (w4 no4) 24) := ⟨_, rfl⟩
  have k0 : Kp w w0 := by rw [hw0]; exact (((Kp.refl w).alloc _).alloc _).alloc _
  have ag : A4 w0 (w.heap.size + 1) (wd g) := by
    have := (A4.new (w.alloc (.cells (w4 (wd f)) 24)) (wd g) 24).alloc (.cells (w4 no4) 24)
    rw [hw0]; simpa using this
  have a2 : A4 w0 (w.heap.size + 2) no4 := by
    have := A4.new ((w.alloc (.cells (w4 (wd f)) 24)).alloc (.cells (w4 (wd g)) 24)) no4 24
    rw [hw0]; simpa using this
  have HW : Hid (w0 = ((w.alloc (.cells (w4 (wd f)) 24)).alloc (.cells (w4 (wd g)) 24)).alloc (.cells (w4 no4) 24)) := hw0
  clear hw0
  have hN := numbers_any f w0
  have hN2 := numbers_any g
  unfold SV at hN hN2 ⊢
  go_enter Tryd.func20, Tryd.ntmps20
  go_wp2_with fail
  rw [show ((w.alloc (.cells #[.int .u64 ((wd f 0 : Nat) : Int), .int .u64 ((wd f 1 : Nat) : Int), .int .u64 ((wd f 2 : Nat) : Int), .int .u64 ((wd f 3 : Nat) : Int)] 24)).alloc (.cells #[.int .u64 ((wd g 0 : Nat) : Int), .int .u64 ((wd g 1 : Nat) : Int), .int .u64 ((wd g 2 : Nat) : Int), .int .u64 ((wd g 3 : Nat) : Int)] 24)).alloc (.cells #[.int .u64 0, .int .u64 0, .int .u64 0, .int .u64 0] 24) = w0 from HW.out.symm]
  clear HW
  refine hN.mono ?_; rintro e w1 ⟨rfl, k1⟩
  clear hN
  have hgn := heap_alloc_new w1 (.cells (bA noF) 52)
  have b1 : B256 ((w1.alloc (.cells (bA noF) 52)).setRow w1.heap.size (bA f)) w1.heap.size f := ⟨setRow_heap _ _ _ (bA f) _ _ hgn⟩
  have hs : w.heap.size + 2 < w1.heap.size := (a2.kept k1).lt
  have a3 : A4 ((w1.alloc (.cells (bA noF) 52)).setRow w1.heap.size (bA f)) (w.heap.size + 2) no4 := ((a2.kept k1).alloc _).of_block (setRow_other _ _ _ _ (by omega)) (by simp)
  have ag3 : A4 ((w1.alloc (.cells (bA noF) 52)).setRow w1.heap.size (bA f)) (w.heap.size + 1) (wd g) := ((ag.kept k1).alloc _).of_block (setRow_other _ _ _ _ (by omega)) (by simp)
  have K1 : Kp w ((w1.alloc (.cells (bA noF) 52)).setRow w1.heap.size (bA f)) := ((k0.trans k1).alloc _).row (by have := (k0.trans k1).size; omega) _
  clear a2 ag k1 k0
  go_upto_region 2 with (refine wpList_store_row rfl 52 _ _ rfl w1.heap.size (bA f) rfl rfl 52 (bA noF) hgn (size_bA f) (by rw [bA_size, bA_size]) (bA_one f) ?_)
  obtain ⟨W2, hW2⟩ : ∃ W2, W2 = (w1.alloc (.cells (bA noF) 52)).setRow w1.heap.size (bA f) := ⟨_, rfl⟩
  rw [← hW2] at b1 a3 ag3 K1 ⊢
  clear hW2 hgn
  obtain ⟨A, hA⟩ : ∃ A, A = w1.heap.size := ⟨_, rfl⟩
  rw [← hA] at hs b1 ⊢
  clear hA
  obtain ⟨c0, c1, c2, c3⟩ := ag3.cells
  go_wp2_with fail
  refine (hN2 _).mono ?_; rintro e w3 ⟨rfl, k3⟩
  clear hN2 c0 c1 c2 c3 ag3
  have hgn := heap_alloc_new w3 (.cells (bA noF) 52)
  have hA3 : A < w3.heap.size := (b1.kept k3).lt
  have bb : B256 ((w3.alloc (.cells (bA noF) 52)).setRow w3.heap.size (bA g)) w3.heap.size g := ⟨setRow_heap _ _ _ (bA g) _ _ hgn⟩
  have ba : B256 ((w3.alloc (.cells (bA noF) 52)).setRow w3.heap.size (bA g)) A f := ⟨(setRow_other _ _ _ _ (by omega)).trans ((b1.kept k3).kept ((Kp.refl _).alloc _)).h⟩
  have a4 : A4 ((w3.alloc (.cells (bA noF) 52)).setRow w3.heap.size (bA g)) (w.heap.size + 2) no4 := ((a3.kept k3).alloc _).of_block (setRow_other _ _ _ _ (by omega)) (by simp)
  have K4 : Kp w ((w3.alloc (.cells (bA noF) 52)).setRow w3.heap.size (bA g)) := ((K1.trans k3).alloc _).row (by omega) _
  clear a3 b1 K1 k3
  go_upto_region 3 with (refine wpList_store_row rfl 52 _ _ rfl w3.heap.size (bA g) rfl rfl 52 (bA noF) hgn (size_bA g) (by rw [bA_size, bA_size]) (bA_one g) ?_)
  obtain ⟨W4, hW4⟩ : ∃ W4, W4 = (w3.alloc (.cells (bA noF) 52)).setRow w3.heap.size (bA g) := ⟨_, rfl⟩
  rw [← hW4] at bb ba a4 K4 ⊢
  clear hW4 hgn hz
  obtain ⟨B, hB⟩ : ∃ B, B = w3.heap.size := ⟨_, rfl⟩
  rw [← hB] at bb hA3 ⊢
  clear hB
  go_wp2
  go_loopw [9] (fun i wr => ∃ k : Nat, k ≤ 256 ∧ i = .int .i64 k ∧ B256 wr A (orP f g k) ∧ B256 wr B g ∧ A4 wr (w.heap.size + 2) no4 ∧ Kp w wr) (fun i _ => 256 - (intOf i).toNat)
  case atStart => exact ⟨0, by omega, rfl, ba.congr (fun i _ => by unfold orP; rw [if_neg (by omega)]), bb, a4, K4⟩
  case round =>
    clear ba bb a4 K4
    obtain ⟨k, hk, rfl, h1, h2, h3, hK⟩ := hrel
    by_cases hlt : k < 256
    · have ca := h1.c k hlt
      rw [show orP f g k k = f k by unfold orP; rw [if_neg (by omega)]] at ca
      have cb := h2.c k hlt
      have za := h1.z k
      have HR : Hid (B256 (wr.setCell ⟨A, k, none⟩ (.bool (orF f g k))) A (orP f g (k + 1)) ∧ B256 (wr.setCell ⟨A, k, none⟩ (.bool (orF f g k))) B g ∧ A4 (wr.setCell ⟨A, k, none⟩ (.bool (orF f g k))) (w.heap.size + 2) no4 ∧ Kp w (wr.setCell ⟨A, k, none⟩ (.bool (orF f g k)))) :=
        ⟨(h1.set k _ hlt).congr (fun i _ => orP_step f g k i), h2.far (by omega) _ _, h3.far (by omega) _ _, hK.set (by omega) _ _⟩
      unfold orF at HR
      clear h1 h2 h3 hK
      cases hf : f k <;> cases hg : g k <;> (rw [hf, hg] at HR; rw [hf] at ca; rw [hg] at cb; clear hf hg)
      all_goals (go_wp2; go_roundw)
      all_goals first | exact ⟨k + 1, by omega, by go_num, HR.out⟩ | (simp [intOf]; omega)
    · obtain rfl : k = 256 := by omega
      have h1' : B256 wr A (orF f g) := h1.congr (fun i hi => by unfold orP; rw [if_pos hi])
      have hg1 := h1'.h
      have hW := words_any (orF f g)
      unfold SV at hW
      have HZ : Hid (∀ W, Kp wr W → A4 W (w.heap.size + 2) no4 ∧ A4 (put4 W (w.heap.size + 2) (wd (orF f g))) (w.heap.size + 2) (wd (orF f g)) ∧ Kp w (put4 W (w.heap.size + 2) (wd (orF f g)))) := fun W hw => ⟨h3.kept hw, (h3.kept hw).put _, (hK.trans hw).put4 (by omega) _⟩
      clear h1 h1' h2 h3 hK
      go_wp2_with (first
        | (go_at_call 32; refine (hW _).mono ?_; rintro e W ⟨rfl, kW⟩; obtain ⟨aW, HR0⟩ := HZ.out W kW; obtain ⟨d0, d1, d2, d3⟩ := aW.cells; have z3 := aW.z)
        | refine wpList_load_row rfl 52 _ rfl A rfl 52 (bA (orF f g)) (0, 0) _ hg1 Tryd.underlying52 rfl (size_bA _) ?_)
      refine bodyPost_ret (results_words rfl _ _ (w.heap.size + 2) (wd (orF f g)) rfl HR0.1) rfl ?_
      exact ⟨rfl, HR0.2⟩

def andP (f g : Nat → Bool) (k i : Nat) : Bool := if i < k then andF f g i else f i
theorem andP_step (f g : Nat → Bool) (k i : Nat) : updB (andP f g k) k (andF f g k) i = andP f g (k + 1) i := by
  unfold updB andP
  by_cases e : i = k
  · subst e; rw [if_pos rfl, if_pos (by omega)]
  · rw [if_neg e]
    by_cases e2 : i < k
    · rw [if_pos e2, if_pos (by omega)]
    · rw [if_neg e2, if_neg (by omega)]
set_option maxRecDepth 100000 in
set_option maxHeartbeats 8000000 in
theorem rand_any (f g : Nat → Bool) (w : World) : Calls Tryd.prog 20 #[SV f, SV g, .int .i64 1] w fun e w' => e = .returned (SV (andF f g)) ∧ Kp w w' := by
  have hz := zero_256
  obtain ⟨w0, hw0⟩ : ∃ w0, w0 = ((w.alloc (.cells (w4 (wd f)) 24)).alloc (.cells (w4 (wd g)) 24)).alloc (.cells (w4 no4) 24) := ⟨_, rfl⟩
  have k0 : Kp w w0 := by rw [hw0]; exact (((Kp.refl w).alloc _).alloc _).alloc _
  have ag : A4 w0 (w.heap.size + 1) (wd g) := by
    have := (A4.new (w.alloc (.cells (w4 (wd f)) 24)) (wd g) 24).alloc (.cells (w4 no4) 24)
    rw [hw0]; simpa using this
  have a2 : A4 w0 (w.heap.size + 2) no4 := by
    have := A4.new ((w.alloc (.cells (w4 (wd f)) 24)).alloc (.cells (w4 (wd g)) 24)) no4 24
    rw [hw0]; simpa using this
  have HW : Hid (w0 = ((w.alloc (.cells (w4 (wd f)) 24)).alloc (.cells (w4 (wd g)) 24)).alloc (.cells (w4 no4) 24)) := hw0
  clear hw0
  have hN := numbers_any f w0
  have hN2 := numbers_any g
  unfold SV at hN hN2 ⊢
  go_enter Tryd.func20, Tryd.ntmps20
  go_wp2_with fail
  rw [show ((w.alloc (.cells #[.int .u64 ((wd f 0 : Nat) : Int), .int .u64 ((wd f 1 : Nat) : Int), .int .u64 ((wd f 2 : Nat) : Int), .int .u64 ((wd f 3 : Nat) : Int)] 24)).alloc (.cells #[.int .u64 ((wd g 0 : Nat) : Int), .int .u64 ((wd g 1 : Nat) : Int), .int .u64 ((wd g 2 : Nat) : Int), .int .u64 ((wd g 3 : Nat) : Int)] 24)).alloc (.cells #[.int .u64 0, .int .u64 0, .int .u64 0, .int .u64 0] 24) = w0 from HW.out.symm]
  clear HW
  refine hN.mono ?_; rintro e w1 ⟨rfl, k1⟩
  clear hN
  have hgn := heap_alloc_new w1 (.cells (bA noF) 52)
  have b1 : B256 ((w1.alloc (.cells (bA noF) 52)).setRow w1.heap.size (bA f)) w1.heap.size f := ⟨setRow_heap _ _ _ (bA f) _ _ hgn⟩
  have hs : w.heap.size + 2 < w1.heap.size := (a2.kept k1).lt
  have a3 : A4 ((w1.alloc (.cells (bA noF) 52)).setRow w1.heap.size (bA f)) (w.heap.size + 2) no4 := ((a2.kept k1).alloc _).of_block (setRow_other _ _ _ _ (by omega)) (by simp)
  have ag3 : A4 ((w1.alloc (.cells (bA noF) 52)).setRow w1.heap.size (bA f)) (w.heap.size + 1) (wd g) := ((ag.kept k1).alloc _).of_block (setRow_other _ _ _ _ (by omega)) (by simp)
  have K1 : Kp w ((w1.alloc (.cells (bA noF) 52)).setRow w1.heap.size (bA f)) := ((k0.trans k1).alloc _).row (by have := (k0.trans k1).size; omega) _
  clear a2 ag k1 k0
  go_upto_region 2 with (refine wpList_store_row rfl 52 _ _ rfl w1.heap.size (bA f) rfl rfl 52 (bA noF) hgn (size_bA f) (by rw [bA_size, bA_size]) (bA_one f) ?_)
  obtain ⟨W2, hW2⟩ : ∃ W2, W2 = (w1.alloc (.cells (bA noF) 52)).setRow w1.heap.size (bA f) := ⟨_, rfl⟩
  rw [← hW2] at b1 a3 ag3 K1 ⊢
  clear hW2 hgn
  obtain ⟨A, hA⟩ : ∃ A, A = w1.heap.size := ⟨_, rfl⟩
  rw [← hA] at hs b1 ⊢
  clear hA
  obtain ⟨c0, c1, c2, c3⟩ := ag3.cells
  go_wp2_with fail
  refine (hN2 _).mono ?_; rintro e w3 ⟨rfl, k3⟩
  clear hN2 c0 c1 c2 c3 ag3
  have hgn := heap_alloc_new w3 (.cells (bA noF) 52)
  have hA3 : A < w3.heap.size := (b1.kept k3).lt
  have bb : B256 ((w3.alloc (.cells (bA noF) 52)).setRow w3.heap.size (bA g)) w3.heap.size g := ⟨setRow_heap _ _ _ (bA g) _ _ hgn⟩
  have ba : B256 ((w3.alloc (.cells (bA noF) 52)).setRow w3.heap.size (bA g)) A f := ⟨(setRow_other _ _ _ _ (by omega)).trans ((b1.kept k3).kept ((Kp.refl _).alloc _)).h⟩
  have a4 : A4 ((w3.alloc (.cells (bA noF) 52)).setRow w3.heap.size (bA g)) (w.heap.size + 2) no4 := ((a3.kept k3).alloc _).of_block (setRow_other _ _ _ _ (by omega)) (by simp)
  have K4 : Kp w ((w3.alloc (.cells (bA noF) 52)).setRow w3.heap.size (bA g)) := ((K1.trans k3).alloc _).row (by omega) _
  clear a3 b1 K1 k3
  go_upto_region 3 with (refine wpList_store_row rfl 52 _ _ rfl w3.heap.size (bA g) rfl rfl 52 (bA noF) hgn (size_bA g) (by rw [bA_size, bA_size]) (bA_one g) ?_)
  obtain ⟨W4, hW4⟩ : ∃ W4, W4 = (w3.alloc (.cells (bA noF) 52)).setRow w3.heap.size (bA g) := ⟨_, rfl⟩
  rw [← hW4] at bb ba a4 K4 ⊢
  clear hW4 hgn hz
  obtain ⟨B, hB⟩ : ∃ B, B = w3.heap.size := ⟨_, rfl⟩
  rw [← hB] at bb hA3 ⊢
  clear hB
  go_wp2
  go_loopw [9] (fun i wr => ∃ k : Nat, k ≤ 256 ∧ i = .int .i64 k ∧ B256 wr A (andP f g k) ∧ B256 wr B g ∧ A4 wr (w.heap.size + 2) no4 ∧ Kp w wr) (fun i _ => 256 - (intOf i).toNat)
  case atStart => exact ⟨0, by omega, rfl, ba.congr (fun i _ => by unfold andP; rw [if_neg (by omega)]), bb, a4, K4⟩
  case round =>
    clear ba bb a4 K4
    obtain ⟨k, hk, rfl, h1, h2, h3, hK⟩ := hrel
    by_cases hlt : k < 256
    · have ca := h1.c k hlt
      rw [show andP f g k k = f k by unfold andP; rw [if_neg (by omega)]] at ca
      have cb := h2.c k hlt
      have za := h1.z k
      have HR : Hid (B256 (wr.setCell ⟨A, k, none⟩ (.bool (andF f g k))) A (andP f g (k + 1)) ∧ B256 (wr.setCell ⟨A, k, none⟩ (.bool (andF f g k))) B g ∧ A4 (wr.setCell ⟨A, k, none⟩ (.bool (andF f g k))) (w.heap.size + 2) no4 ∧ Kp w (wr.setCell ⟨A, k, none⟩ (.bool (andF f g k)))) :=
        ⟨(h1.set k _ hlt).congr (fun i _ => andP_step f g k i), h2.far (by omega) _ _, h3.far (by omega) _ _, hK.set (by omega) _ _⟩
      unfold andF at HR
      clear h1 h2 h3 hK
      cases hf : f k <;> cases hg : g k <;> (rw [hf, hg] at HR; rw [hf] at ca; rw [hg] at cb; clear hf hg)
      all_goals (go_wp2; go_roundw)
      all_goals first | exact ⟨k + 1, by omega, by go_num, HR.out⟩ | (simp [intOf]; omega)
    · obtain rfl : k = 256 := by omega
      have h1' : B256 wr A (andF f g) := h1.congr (fun i hi => by unfold andP; rw [if_pos hi])
      have hg1 := h1'.h
      have hW := words_any (andF f g)
      unfold SV at hW
      have HZ : Hid (∀ W, Kp wr W → A4 W (w.heap.size + 2) no4 ∧ A4 (put4 W (w.heap.size + 2) (wd (andF f g))) (w.heap.size + 2) (wd (andF f g)) ∧ Kp w (put4 W (w.heap.size + 2) (wd (andF f g)))) := fun W hw => ⟨h3.kept hw, (h3.kept hw).put _, (hK.trans hw).put4 (by omega) _⟩
      clear h1 h1' h2 h3 hK
      go_wp2_with (first
        | (go_at_call 32; refine (hW _).mono ?_; rintro e W ⟨rfl, kW⟩; obtain ⟨aW, HR0⟩ := HZ.out W kW; obtain ⟨d0, d1, d2, d3⟩ := aW.cells; have z3 := aW.z)
        | refine wpList_load_row rfl 52 _ rfl A rfl 52 (bA (andF f g)) (0, 0) _ hg1 Tryd.underlying52 rfl (size_bA _) ?_)
      refine bodyPost_ret (results_words rfl _ _ (w.heap.size + 2) (wd (andF f g)) rfl HR0.1) rfl ?_
      exact ⟨rfl, HR0.2⟩

def lessP (f g : Nat → Bool) (k i : Nat) : Bool := if i < k then lessF f g i else f i
theorem lessP_step (f g : Nat → Bool) (k i : Nat) : updB (lessP f g k) k (lessF f g k) i = lessP f g (k + 1) i := by
  unfold updB lessP
  by_cases e : i = k
  · subst e; rw [if_pos rfl, if_pos (by omega)]
  · rw [if_neg e]
    by_cases e2 : i < k
    · rw [if_pos e2, if_pos (by omega)]
    · rw [if_neg e2, if_neg (by omega)]
set_option maxRecDepth 100000 in
set_option maxHeartbeats 8000000 in
theorem rless_any (f g : Nat → Bool) (w : World) : Calls Tryd.prog 20 #[SV f, SV g, .int .i64 2] w fun e w' => e = .returned (SV (lessF f g)) ∧ Kp w w' := by
  have hz := zero_256
  obtain ⟨w0, hw0⟩ : ∃ w0, w0 = ((w.alloc (.cells (w4 (wd f)) 24)).alloc (.cells (w4 (wd g)) 24)).alloc (.cells (w4 no4) 24) := ⟨_, rfl⟩
  have k0 : Kp w w0 := by rw [hw0]; exact (((Kp.refl w).alloc _).alloc _).alloc _
  have ag : A4 w0 (w.heap.size + 1) (wd g) := by
    have := (A4.new (w.alloc (.cells (w4 (wd f)) 24)) (wd g) 24).alloc (.cells (w4 no4) 24)
    rw [hw0]; simpa using this
  have a2 : A4 w0 (w.heap.size + 2) no4 := by
    have := A4.new ((w.alloc (.cells (w4 (wd f)) 24)).alloc (.cells (w4 (wd g)) 24)) no4 24
    rw [hw0]; simpa using this
  have HW : Hid (w0 = ((w.alloc (.cells (w4 (wd f)) 24)).alloc (.cells (w4 (wd g)) 24)).alloc (.cells (w4 no4) 24)) := hw0
  clear hw0
  have hN := numbers_any f w0
  have hN2 := numbers_any g
  unfold SV at hN hN2 ⊢
  go_enter Tryd.func20, Tryd.ntmps20
  go_wp2_with fail
  rw [show ((w.alloc (.cells #[.int .u64 ((wd f 0 : Nat) : Int), .int .u64 ((wd f 1 : Nat) : Int), .int .u64 ((wd f 2 : Nat) : Int), .int .u64 ((wd f 3 : Nat) : Int)] 24)).alloc (.cells #[.int .u64 ((wd g 0 : Nat) : Int), .int .u64 ((wd g 1 : Nat) : Int), .int .u64 ((wd g 2 : Nat) : Int), .int .u64 ((wd g 3 : Nat) : Int)] 24)).alloc (.cells #[.int .u64 0, .int .u64 0, .int .u64 0, .int .u64 0] 24) = w0 from HW.out.symm]
  clear HW
  refine hN.mono ?_; rintro e w1 ⟨rfl, k1⟩
  clear hN
  have hgn := heap_alloc_new w1 (.cells (bA noF) 52)
  have b1 : B256 ((w1.alloc (.cells (bA noF) 52)).setRow w1.heap.size (bA f)) w1.heap.size f := ⟨setRow_heap _ _ _ (bA f) _ _ hgn⟩
  have hs : w.heap.size + 2 < w1.heap.size := (a2.kept k1).lt
  have a3 : A4 ((w1.alloc (.cells (bA noF) 52)).setRow w1.heap.size (bA f)) (w.heap.size + 2) no4 := ((a2.kept k1).alloc _).of_block (setRow_other _ _ _ _ (by omega)) (by simp)
  have ag3 : A4 ((w1.alloc (.cells (bA noF) 52)).setRow w1.heap.size (bA f)) (w.heap.size + 1) (wd g) := ((ag.kept k1).alloc _).of_block (setRow_other _ _ _ _ (by omega)) (by simp)
  have K1 : Kp w ((w1.alloc (.cells (bA noF) 52)).setRow w1.heap.size (bA f)) := ((k0.trans k1).alloc _).row (by have := (k0.trans k1).size; omega) _
  clear a2 ag k1 k0
  go_upto_region 2 with (refine wpList_store_row rfl 52 _ _ rfl w1.heap.size (bA f) rfl rfl 52 (bA noF) hgn (size_bA f) (by rw [bA_size, bA_size]) (bA_one f) ?_)
  obtain ⟨W2, hW2⟩ : ∃ W2, W2 = (w1.alloc (.cells (bA noF) 52)).setRow w1.heap.size (bA f) := ⟨_, rfl⟩
  rw [← hW2] at b1 a3 ag3 K1 ⊢
  clear hW2 hgn
  obtain ⟨A, hA⟩ : ∃ A, A = w1.heap.size := ⟨_, rfl⟩
  rw [← hA] at hs b1 ⊢
  clear hA
  obtain ⟨c0, c1, c2, c3⟩ := ag3.cells
  go_wp2_with fail
  refine (hN2 _).mono ?_; rintro e w3 ⟨rfl, k3⟩
  clear hN2 c0 c1 c2 c3 ag3
  have hgn := heap_alloc_new w3 (.cells (bA noF) 52)
  have hA3 : A < w3.heap.size := (b1.kept k3).lt
  have bb : B256 ((w3.alloc (.cells (bA noF) 52)).setRow w3.heap.size (bA g)) w3.heap.size g := ⟨setRow_heap _ _ _ (bA g) _ _ hgn⟩
  have ba : B256 ((w3.alloc (.cells (bA noF) 52)).setRow w3.heap.size (bA g)) A f := ⟨(setRow_other _ _ _ _ (by omega)).trans ((b1.kept k3).kept ((Kp.refl _).alloc _)).h⟩
  have a4 : A4 ((w3.alloc (.cells (bA noF) 52)).setRow w3.heap.size (bA g)) (w.heap.size + 2) no4 := ((a3.kept k3).alloc _).of_block (setRow_other _ _ _ _ (by omega)) (by simp)
  have K4 : Kp w ((w3.alloc (.cells (bA noF) 52)).setRow w3.heap.size (bA g)) := ((K1.trans k3).alloc _).row (by omega) _
  clear a3 b1 K1 k3
  go_upto_region 3 with (refine wpList_store_row rfl 52 _ _ rfl w3.heap.size (bA g) rfl rfl 52 (bA noF) hgn (size_bA g) (by rw [bA_size, bA_size]) (bA_one g) ?_)
  obtain ⟨W4, hW4⟩ : ∃ W4, W4 = (w3.alloc (.cells (bA noF) 52)).setRow w3.heap.size (bA g) := ⟨_, rfl⟩
  rw [← hW4] at bb ba a4 K4 ⊢
  clear hW4 hgn hz
  obtain ⟨B, hB⟩ : ∃ B, B = w3.heap.size := ⟨_, rfl⟩
  rw [← hB] at bb hA3 ⊢
  clear hB
  go_wp2
  go_loopw [9] (fun i wr => ∃ k : Nat, k ≤ 256 ∧ i = .int .i64 k ∧ B256 wr A (lessP f g k) ∧ B256 wr B g ∧ A4 wr (w.heap.size + 2) no4 ∧ Kp w wr) (fun i _ => 256 - (intOf i).toNat)
  case atStart => exact ⟨0, by omega, rfl, ba.congr (fun i _ => by unfold lessP; rw [if_neg (by omega)]), bb, a4, K4⟩
  case round =>
    clear ba bb a4 K4
    obtain ⟨k, hk, rfl, h1, h2, h3, hK⟩ := hrel
    by_cases hlt : k < 256
    · have ca := h1.c k hlt
      rw [show lessP f g k k = f k by unfold lessP; rw [if_neg (by omega)]] at ca
      have cb := h2.c k hlt
      have za := h1.z k
      have HR : Hid (B256 (wr.setCell ⟨A, k, none⟩ (.bool (lessF f g k))) A (lessP f g (k + 1)) ∧ B256 (wr.setCell ⟨A, k, none⟩ (.bool (lessF f g k))) B g ∧ A4 (wr.setCell ⟨A, k, none⟩ (.bool (lessF f g k))) (w.heap.size + 2) no4 ∧ Kp w (wr.setCell ⟨A, k, none⟩ (.bool (lessF f g k)))) :=
        ⟨(h1.set k _ hlt).congr (fun i _ => lessP_step f g k i), h2.far (by omega) _ _, h3.far (by omega) _ _, hK.set (by omega) _ _⟩
      unfold lessF at HR
      clear h1 h2 h3 hK
      cases hf : f k <;> cases hg : g k <;> (rw [hf, hg] at HR; rw [hf] at ca; rw [hg] at cb; clear hf hg)
      all_goals (go_wp2; go_roundw)
      all_goals first | exact ⟨k + 1, by omega, by go_num, HR.out⟩ | (simp [intOf]; omega)
    · obtain rfl : k = 256 := by omega
      have h1' : B256 wr A (lessF f g) := h1.congr (fun i hi => by unfold lessP; rw [if_pos hi])
      have hg1 := h1'.h
      have hW := words_any (lessF f g)
      unfold SV at hW
      have HZ : Hid (∀ W, Kp wr W → A4 W (w.heap.size + 2) no4 ∧ A4 (put4 W (w.heap.size + 2) (wd (lessF f g))) (w.heap.size + 2) (wd (lessF f g)) ∧ Kp w (put4 W (w.heap.size + 2) (wd (lessF f g)))) := fun W hw => ⟨h3.kept hw, (h3.kept hw).put _, (hK.trans hw).put4 (by omega) _⟩
      clear h1 h1' h2 h3 hK
      go_wp2_with (first
        | (go_at_call 32; refine (hW _).mono ?_; rintro e W ⟨rfl, kW⟩; obtain ⟨aW, HR0⟩ := HZ.out W kW; obtain ⟨d0, d1, d2, d3⟩ := aW.cells; have z3 := aW.z)
        | refine wpList_load_row rfl 52 _ rfl A rfl 52 (bA (lessF f g)) (0, 0) _ hg1 Tryd.underlying52 rfl (size_bA _) ?_)
      refine bodyPost_ret (results_words rfl _ _ (w.heap.size + 2) (wd (lessF f g)) rfl HR0.1) rfl ?_
      exact ⟨rfl, HR0.2⟩

end Go.Proofs.YtekbhgcnobiplaaDoor
