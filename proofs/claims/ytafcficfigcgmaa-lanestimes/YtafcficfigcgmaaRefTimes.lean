/-
  Contract of the document's Times: for every word and byte it gives what lanes.Times gives, and changes nothing that was there. No condition.
-/
import Derived.Test.YtafcficfigcgmaaMul
import Derived.Test.YtafcficfigcgmaaRefHigh
namespace Go.Proofs.Ytafcficfigcgmaa
open Go.RowKit Plain

/-- what is kept in the round: the eight bytes at their block, and that all else is as it was. -/
structure Kept (w : World) (f : Nat → Nat) (wr : World) : Prop where
  cell : ∀ i, i < 8 → wr.cell? ⟨w.heap.size + 1 + 1, i, none⟩ = some (.int .u8 (f i : Nat))
  froz : ∀ i, i < 8 → wr.frozen? ⟨w.heap.size + 1 + 1, i, none⟩ = false
  size : w.heap.size + 1 + 1 < wr.heap.size
  grown : Grown w wr
theorem kept_start (w : World) (f : Nat → Nat) : Kept w f (((w.alloc (.cells (bvA f) 26)).alloc (.cells (bvA f) 26)).alloc (.cells (bvA f) 26)) where
  cell := fun i hi => by rw [World.cell?_alloc_at _ _ _ _ (by simp)]; exact bvA_at f i hi
  froz := fun i _ => World.frozen?_alloc_at _ _ _ _ (by simp)
  size := by simp
  grown := (((Grown.refl w).alloc _ _).alloc _ _).alloc _ _
theorem kept_step (w wr : World) (g f : Nat → Nat) (k : Nat) (hk : k < 8) (h : Kept w (mapF g f k) wr) (C : Array Value) :
    Kept w (mapF g f (k + 1)) ((wr.setCell ⟨w.heap.size + 1 + 1, k, none⟩ (.int .u8 (g (f k) : Nat))).alloc (.cells C 40)) where
  cell := fun i hi => by
    rw [World.cell?_alloc_past _ _ _ (by simpa using h.size)]
    by_cases e : i = k
    · subst e
      rw [World.cell?_setCell_same _ _ _ (h.cell i hi), mapF_at]
    · rw [World.cell?_setCell_other _ _ _ _ (fun he => e (by injection he with _ h2 _; exact h2.symm)), h.cell i hi, mapF_step _ _ _ _ e]
  froz := fun i hi => by
    rw [frozen?_alloc_cells, World.frozen?_setCell]; exact h.froz i hi
  size := by have := h.size; simp; omega
  grown := (h.grown.setCell (by show w.heap.size ≤ w.heap.size + 1 + 1; omega) _).alloc _ _
theorem ml_lt (b c : Nat) : mlN b c < 256 := Nat.mod_lt _ (by omega)
theorem mapF_lt (g f : Nat → Nat) (k i : Nat) (hg : ∀ b, g b < 256) (hf : ∀ i, f i < 256) : mapF g f k i < 256 := by
  unfold mapF; split
  · exact hg _
  · exact hf _
set_option maxRecDepth 100000 in
set_option maxHeartbeats 1000000 in
theorem reftimes_any (x c : Nat) (hx : x < 18446744073709551616) (hcc : c < 256) (w : World) :
    Calls Try.prog 19 #[.int .u64 x, .int .u8 c] w fun e w' => e = .returned (.int .u64 (hz (fun i => mlN (byN x i) c) 8 : Nat)) ∧ Grown w w' := by
  go_enter Try.func19, Try.ntmps19
  go_wp2_with fail
  refine (bytes_lit x hx _).mono ?_; rintro e w' ⟨rfl, rfl⟩
  go_wp2
  go_loopw [6] (fun i wr => ∃ k : Nat, k ≤ 8 ∧ i = .int .i64 k ∧ Kept w (mapF (fun b => mlN b c) (byN x) k) wr) (fun i _ => 8 - (intOf i).toNat)
  case atStart => exact ⟨0, by omega, rfl, by
      rw [← bvA_lit (byN x)]
      exact kept_start w (byN x)⟩
  case round =>
    obtain ⟨k, hk, rfl, hK⟩ := hrel
    by_cases hlt : k < 8
    · have hc := hK.cell k hlt
      rw [mapF_here] at hc
      have hl := byN_lt x k
      have hsz := hK.size
      have hfz : ∀ C, (wr.alloc (.cells C 40)).frozen? ⟨w.heap.size + 1 + 1, k, none⟩ = false := fun C => by
        rw [frozen?_alloc_cells]; exact hK.froz k hlt
      have HK : Hid (Kept w (mapF (fun b => mlN b c) (byN x) k) wr) := hK
      clear hK
      go_wp2_with fail
      refine (mul_any _ _ hl hcc _).mono ?_; rintro e w' ⟨rfl, rfl⟩
      go_wp2
      go_roundw
      case rel => exact ⟨k + 1, by omega, by go_num, kept_step w wr (fun b => mlN b c) (byN x) k hlt HK.out _⟩
      case measure => simp [intOf]; omega
    · obtain rfl : k = 8 := by omega
      have c0 := hK.cell 0 (by omega)
      have c1 := hK.cell 1 (by omega)
      have c2 := hK.cell 2 (by omega)
      have c3 := hK.cell 3 (by omega)
      have c4 := hK.cell 4 (by omega)
      have c5 := hK.cell 5 (by omega)
      have c6 := hK.cell 6 (by omega)
      have c7 := hK.cell 7 (by omega)
      have HG : Hid (Grown w wr) := hK.grown
      clear hK
      go_wp2_with fail
      refine (word_lit (mapF (fun b => mlN b c) (byN x) 8) (fun i => mapF_lt _ _ 8 i (fun b => ml_lt b c) (byN_lt x)) _).mono ?_; rintro e w' ⟨rfl, rfl⟩
      rw [show hz (mapF (fun b => mlN b c) (byN x) 8) 8 = hz (fun i => mlN (byN x i) c) 8 from rfl]
      clear c0 c1 c2 c3 c4 c5 c6 c7
      go_wp2
      go_ret
      exact ⟨rfl, HG.out.alloc _ _⟩
theorem hz_congr (f g : Nat → Nat) (h : ∀ i, f i = g i) (k : Nat) : hz f k = hz g k := by
  rw [show f = g from funext h]
theorem ml_word (x c : Nat) (hx : x < 18446744073709551616) (hc : c < 256) : hz (fun i => mlN (byN x i) c) 8 = tmN x c := by
  rw [tm_lm x c hx, lm_hz]
  exact hz_congr _ _ (fun i => ml_is _ _ (byN_lt x i) hc) 8
theorem reftimes_is (x c : Nat) (hx : x < 18446744073709551616) (hc : c < 256) (w : World) :
    Calls Try.prog 19 #[.int .u64 x, .int .u8 c] w fun e w' => e = .returned (.int .u64 (tmN x c : Nat)) ∧ Grown w w' := by
  have h := reftimes_any x c hx hc w
  rw [ml_word x c hx hc] at h
  exact h
theorem tm_two (x : Nat) : tmN x 2 = twN x := by
  simp [tmN, tmS, twI]
theorem fb_is : ∀ b, b < 256 → tbS b 142 8 = fb b := by decide +kernel
theorem tm_half (x : Nat) (hx : x < 18446744073709551616) : tmN x 142 = hfN x := by
  rw [tm_lm x 142 hx, hf_lm, lm_congr fb_is]
theorem reftimes_two (x : Nat) (hx : x < 18446744073709551616) (w : World) :
    Calls Try.prog 19 #[.int .u64 x, .int .u8 2] w fun e w' => e = .returned (.int .u64 (twN x : Nat)) ∧ Grown w w' := by
  have h := reftimes_is x 2 hx (by omega) w
  rw [tm_two] at h
  exact h
theorem reftimes_half (x : Nat) (hx : x < 18446744073709551616) (w : World) :
    Calls Try.prog 19 #[.int .u64 x, .int .u8 142] w fun e w' => e = .returned (.int .u64 (hfN x : Nat)) ∧ Grown w w' := by
  have h := reftimes_is x 142 hx (by omega) w
  rw [tm_half x hx] at h
  exact h

end Go.Proofs.Ytafcficfigcgmaa
