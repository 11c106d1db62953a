/-
  Arrays of 256 truths in memory (B256), what a store leaves; contract of the document's Words: the words of the numbers that are set. No condition.
-/
import Derived.Test.YtekbhgcnobiplaaDoorMkRef
namespace Go.Proofs.YtekbhgcnobiplaaDoor
open Go.RowKit Plain
set_option linter.unusedVariables false

def bA (f : Nat → Bool) : Array Value := ((List.range 256).map fun i => Value.bool (f i)).toArray
theorem bA_size (f : Nat → Bool) : (bA f).size = 256 := by unfold bA; simp
theorem bA_at (f : Nat → Bool) (i : Nat) (h : i < 256) : (bA f)[i]? = some (.bool (f i)) := by unfold bA; simp [h]
def updB (f : Nat → Bool) (k : Nat) (x : Bool) (i : Nat) : Bool := if i = k then x else f i
theorem bA_set (f : Nat → Bool) (k : Nat) (x : Bool) (h : k < 256) : (bA f).setIfInBounds k (.bool x) = bA (updB f k x) := by
  apply Array.ext_getElem?
  intro i
  rw [Array.getElem?_setIfInBounds]
  by_cases hi : i < 256
  · rw [bA_at (updB f k x) i hi]
    unfold updB
    by_cases e : k = i
    · subst e; rw [if_pos rfl, if_pos (by rw [bA_size]; exact h), if_pos rfl]
    · rw [if_neg e, if_neg (show ¬ i = k from fun h => e h.symm), bA_at f i hi]
  · have h1 : (bA (updB f k x))[i]? = none := Array.getElem?_eq_none (by rw [bA_size]; omega)
    have h2 : (bA f)[i]? = none := Array.getElem?_eq_none (by rw [bA_size]; omega)
    rw [h1, if_neg (by omega), h2]
theorem bA_congr {f g : Nat → Bool} (h : ∀ i, i < 256 → f i = g i) : bA f = bA g := by
  apply Array.ext_getElem?
  intro i
  by_cases hi : i < 256
  · rw [bA_at _ i hi, bA_at _ i hi, h i hi]
  · rw [Array.getElem?_eq_none (by rw [bA_size]; omega), Array.getElem?_eq_none (by rw [bA_size]; omega)]
/-- 256 truths at block b. -/
structure B256 (w : World) (b : Nat) (f : Nat → Bool) : Prop where
  h : w.heap[b]? = some (.cells (bA f) 52 (0, 0))
theorem B256.lt {w : World} {b : Nat} {f : Nat → Bool} (h : B256 w b f) : b < w.heap.size := (Array.getElem?_eq_some_iff.1 h.h).1
theorem B256.c {w : World} {b : Nat} {f : Nat → Bool} (h : B256 w b f) (i : Nat) (hi : i < 256) : w.cell? ⟨b, i, none⟩ = some (.bool (f i)) := by
  rw [cell_of_row w b i _ _ _ h.h]; exact bA_at f i hi
theorem B256.z {w : World} {b : Nat} {f : Nat → Bool} (h : B256 w b f) (o : Nat) : w.frozen? ⟨b, o, none⟩ = false := by
  simp [World.frozen?, h.h]
theorem B256.new (w : World) (f : Nat → Bool) : B256 (w.alloc (.cells (bA f) 52)) w.heap.size f := ⟨heap_alloc_new w _⟩
theorem B256.kept {w w' : World} {b : Nat} {f : Nat → Bool} (h : B256 w b f) (k : Kp w w') : B256 w' b f := ⟨(k.block b h.lt).trans h.h⟩
theorem B256.far {w : World} {b c : Nat} {f : Nat → Bool} (h : B256 w b f) (hb : b ≠ c) (o : Nat) (x : Value) : B256 (w.setCell ⟨c, o, none⟩ x) b f := ⟨(Below.heap_setCell _ _ _ _ hb).trans h.h⟩
theorem B256.set {w : World} {b : Nat} {f : Nat → Bool} (h : B256 w b f) (k : Nat) (x : Bool) (hk : k < 256) : B256 (w.setCell ⟨b, k, none⟩ (.bool x)) b (updB f k x) := by
  refine ⟨?_⟩
  rw [← bA_set f k x hk]
  simp [World.setCell, Array.getElem?_modify, h.h]
theorem B256.congr {w : World} {b : Nat} {f g : Nat → Bool} (h : B256 w b f) (e : ∀ i, i < 256 → f i = g i) : B256 w b g := ⟨by rw [← bA_congr e]; exact h.h⟩
theorem zero_256 (w : World) : (zeroValue 52).run Tryd.prog w = .ok (.agg (bA noF)) w := by kernel_rfl

/-! ### Words -/
def hv (f : Nat → Bool) (k j : Nat) : Nat := wn (64 - j) (fun t => f (64 * k + j + t))
theorem hv_step (f : Nat → Bool) (k j : Nat) (hj : j < 64) : hv f k j = 2 * hv f k (j + 1) + (f (64 * k + j)).toNat := by
  unfold hv
  rw [show 64 - j = (64 - (j + 1)) + 1 by omega]
  simp only [wn]
  rw [show (fun t => f (64 * k + j + (t + 1))) = fun t => f (64 * k + (j + 1) + t) from funext fun t => by congr 1; omega, show 64 * k + j + 0 = 64 * k + j from rfl]
  omega
theorem hv_lt (f : Nat → Bool) (k j : Nat) : hv f k (j + 1) < 9223372036854775808 :=
  Nat.lt_of_lt_of_le (wn_lt _ _) (by rw [show (9223372036854775808 : Nat) = 2 ^ 63 from rfl]; exact Nat.pow_le_pow_right (by omega) (by omega))
theorem hv_all (f : Nat → Bool) (k : Nat) : hv f k 0 = wd f k := rfl
def hK (f : Nat → Bool) (k j m : Nat) : Nat := if m < k then wd f m else if m = k then hv f k j else 0
theorem hK_step (f : Nat → Bool) (k j m : Nat) : upd (hK f k (j + 1)) k (hv f k j) m = hK f k j m := by
  unfold upd hK
  by_cases e : m = k
  · subst e; rw [if_pos rfl, if_neg (by omega), if_pos rfl]
  · rw [if_neg e, if_neg e, if_neg e]
theorem hK_at (f : Nat → Bool) (k j : Nat) : hK f k j k = hv f k j := by unfold hK; rw [if_neg (by omega), if_pos rfl]
def wK (f : Nat → Bool) (k m : Nat) : Nat := if m < k then wd f m else 0
theorem wK_first (f : Nat → Bool) (k m : Nat) : wK f k m = hK f k 64 m := by
  unfold wK hK hv
  by_cases e : m < k
  · rw [if_pos e, if_pos e]
  · rw [if_neg e, if_neg e]
    by_cases e2 : m = k
    · rw [if_pos e2]; rfl
    · rw [if_neg e2]
theorem wK_last (f : Nat → Bool) (k m : Nat) : hK f k 0 m = wK f (k + 1) m := by
  unfold wK hK
  rw [hv_all]
  by_cases e : m < k
  · rw [if_pos e, if_pos (by omega)]
  · rw [if_neg e]
    by_cases e2 : m = k
    · subst e2; rw [if_pos rfl, if_pos (by omega)]
    · rw [if_neg e2, if_neg (by omega)]
set_option maxRecDepth 100000 in
set_option maxHeartbeats 4000000 in
theorem words_any (f : Nat → Bool) (w : World) : Calls Tryd.prog 32 #[.agg (bA f)] w fun e w' => e = .returned (SV f) ∧ Kp w w' := by
  obtain ⟨w0, hw0⟩ : ∃ w0, w0 = ((w.alloc (.cells (bA f) 52)).alloc (.cells (w4 no4) 24)).alloc (.cells (w4 no4) 24) := ⟨_, rfl⟩
  have k0 : Kp w w0 := by rw [hw0]; exact (((Kp.refl w).alloc _).alloc _).alloc _
  have b1 : B256 w0 w.heap.size f := by rw [hw0]; exact (B256.new w f).kept (((Kp.refl _).alloc _).alloc _)
  have a2 : A4 w0 (w.heap.size + 1) no4 := by
    have := (A4.new (w.alloc (.cells (bA f) 52)) no4 24).alloc (.cells (w4 no4) 24)
    rw [hw0]; simpa using this
  have a3 : A4 w0 (w.heap.size + 2) no4 := by
    have := A4.new ((w.alloc (.cells (bA f) 52)).alloc (.cells (w4 no4) 24)) no4 24
    rw [hw0]; simpa using this
  have HW : Hid (w0 = ((w.alloc (.cells (bA f) 52)).alloc (.cells (w4 no4) 24)).alloc (.cells (w4 no4) 24)) := hw0
  clear hw0
  unfold SV
  go_enter Tryd.func32, Tryd.ntmps32
  go_wp2
  rw [show ((w.alloc (.cells (bA f) 52)).alloc (.cells #[.int .u64 0, .int .u64 0, .int .u64 0, .int .u64 0] 24)).alloc (.cells #[.int .u64 0, .int .u64 0, .int .u64 0, .int .u64 0] 24) = w0 from HW.out.symm]
  clear HW
  go_loopw [4] (fun i wr => ∃ k : Nat, k ≤ 4 ∧ i = .int .i64 k ∧ A4 wr (w.heap.size + 2) (wK f k) ∧ A4 wr (w.heap.size + 1) no4 ∧ B256 wr w.heap.size f ∧ Kp w wr) (fun i _ => 4 - (intOf i).toNat)
  case atStart => exact ⟨0, by omega, rfl, a3.congr (fun j _ => by unfold wK no4; rw [if_neg (by omega)]), a2, b1, k0⟩
  case round =>
    clear a2 a3 b1 k0
    obtain ⟨k, hk, rfl, h1, h2, h3, hk0⟩ := hrel
    by_cases hlt : k < 4
    · go_wp2
      go_loopw [5] (fun i wr => ∃ j : Nat, j ≤ 64 ∧ i = .int .i64 ((j : Int) - 1) ∧ A4 wr (w.heap.size + 2) (hK f k j) ∧ A4 wr (w.heap.size + 1) no4 ∧ B256 wr w.heap.size f ∧ Kp w wr) (fun i _ => (intOf i + 1).toNat)
      case atStart => exact ⟨64, by omega, rfl, h1.congr (fun m _ => wK_first f k m), h2, h3, hk0⟩
      case round =>
        clear h1 h2 h3 hk0
        obtain ⟨j0, hj, rfl, h1, h2, h3, hk0⟩ := hrel
        by_cases hj0 : 0 < j0
        · obtain ⟨j, rfl⟩ : ∃ j, j0 = j + 1 := ⟨j0 - 1, by omega⟩
          rw [show (((j + 1 : Nat) : Int) - 1) = (j : Int) by omega]
          have hj64 : j < 64 := by omega
          obtain ⟨m, hm⟩ : ∃ m, m = 64 * k + j := ⟨_, rfl⟩
          have hm2 : 64 * (k : Int) + (j : Int) = (m : Int) := by omega
          have hm3 : m < 256 := by omega
          have c1 := h1.c k hlt
          rw [hK_at] at c1
          have z1 := h1.z k
          have cB := h3.c m hm3
          have hb := hv_lt f k j
          have HV := hv_step f k j hj64
          rw [← hm] at HV
          have HS : Hid (∀ y x, x = hv f k j → A4 ((wr.setCell ⟨w.heap.size + 2, k, none⟩ (.int .u64 ((y : Nat) : Int))).setCell ⟨w.heap.size + 2, k, none⟩ (.int .u64 ((x : Nat) : Int))) (w.heap.size + 2) (hK f k j) ∧ A4 ((wr.setCell ⟨w.heap.size + 2, k, none⟩ (.int .u64 ((y : Nat) : Int))).setCell ⟨w.heap.size + 2, k, none⟩ (.int .u64 ((x : Nat) : Int))) (w.heap.size + 1) no4 ∧ B256 ((wr.setCell ⟨w.heap.size + 2, k, none⟩ (.int .u64 ((y : Nat) : Int))).setCell ⟨w.heap.size + 2, k, none⟩ (.int .u64 ((x : Nat) : Int))) w.heap.size f ∧ Kp w ((wr.setCell ⟨w.heap.size + 2, k, none⟩ (.int .u64 ((y : Nat) : Int))).setCell ⟨w.heap.size + 2, k, none⟩ (.int .u64 ((x : Nat) : Int)))) := fun y x hx => by
            rw [hx]
            exact ⟨((h1.set k y hlt).set k _ hlt).congr (fun m _ => by rw [← hK_step f k j m]; unfold upd; by_cases e : m = k <;> simp [e]), (h2.far (by omega) _ _).far (by omega) _ _, (h3.far (by omega) _ _).far (by omega) _ _, (hk0.set (by omega) _ _).set (by omega) _ _⟩
          have HS1 : Hid (∀ x, x = hv f k j → A4 (wr.setCell ⟨w.heap.size + 2, k, none⟩ (.int .u64 ((x : Nat) : Int))) (w.heap.size + 2) (hK f k j) ∧ A4 (wr.setCell ⟨w.heap.size + 2, k, none⟩ (.int .u64 ((x : Nat) : Int))) (w.heap.size + 1) no4 ∧ B256 (wr.setCell ⟨w.heap.size + 2, k, none⟩ (.int .u64 ((x : Nat) : Int))) w.heap.size f ∧ Kp w (wr.setCell ⟨w.heap.size + 2, k, none⟩ (.int .u64 ((x : Nat) : Int)))) := fun x hx => by
            rw [hx]
            exact ⟨(h1.set k _ hlt).congr (fun m _ => hK_step f k j m), h2.far (by omega) _ _, h3.far (by omega) _ _, hk0.set (by omega) _ _⟩
          obtain ⟨x, hx⟩ : ∃ x, x = hv f k (j + 1) := ⟨_, rfl⟩
          rw [← hx] at c1 hb HV
          clear h1 h2 h3 hk0 hm hx hj hk
          by_cases hfm : f m = true
          · rw [hfm] at cB HV
            have HV2 : Hid (2 * x + 1 = hv f k j) := by show _ = _; rw [HV]; rfl
            clear hfm HV HS1
            go_wp2
            go_roundw
            case rel => exact ⟨j, by omega, by go_num, HS.out (2 * x) (2 * x + 1) HV2.out⟩
            case measure => simp [intOf] <;> omega
          · have hfm' : f m = false := by simpa using hfm
            rw [hfm'] at cB HV
            have HV2 : Hid (2 * x = hv f k j) := by show _ = _; rw [HV]; rfl
            clear hfm hfm' HV HS
            go_wp2
            go_roundw
            case rel => exact ⟨j, by omega, by go_num, HS1.out (2 * x) HV2.out⟩
            case measure => simp [intOf] <;> omega
        · obtain rfl : j0 = 0 := by omega
          have h1' := h1.congr (fun m _ => wK_last f k m)
          clear h1
          go_wp2
          go_roundw
          case rel => exact ⟨k + 1, by omega, by go_num, h1', h2, h3, hk0⟩
          case measure => simp [intOf]; omega
    · obtain rfl : k = 4 := by omega
      obtain ⟨c0, c1, c2, c3⟩ := h1.cells
      obtain ⟨d0, d1, d2, d3⟩ := h2.cells
      have z3 := h2.z
      simp only [wK] at c0 c1 c2 c3
      rw [if_pos (by omega)] at c0 c1 c2 c3
      have HA : Hid (A4 (put4 wr (w.heap.size + 1) (wd f)) (w.heap.size + 1) (wd f) ∧ Kp w (put4 wr (w.heap.size + 1) (wd f))) := ⟨h2.put _, hk0.put4 (by omega) _⟩
      clear h1 h2 h3 hk0
      go_wp2
      refine bodyPost_ret (results_words rfl _ _ (w.heap.size + 1) (wd f) rfl HA.out.1) rfl ?_
      exact ⟨rfl, HA.out.2⟩

end Go.Proofs.YtekbhgcnobiplaaDoor
