/-
  Contract of the laws' bits. Condition: that the word is one of 64 bits.
-/
import Derived.Test.YtffbachgbcefiaaDoorPsLaw
import Derived.Test.YtffbachgbcefiaaDoorPsMin
namespace Go.Proofs.YtffbachgbcefiaaDoor
open Go.RowKit Plain
set_option linter.unusedVariables false
set_option linter.unusedSimpArgs false

def oddB (n : Nat) : Bool := decide (n / 4294967296 ≠ 0)
theorem shr_bit (n : Nat) (hn : n < 18446744073709551616) (k : Nat) (hk : k < 64) : (bits .and .u64 ((n : Int) / 2 ^ k) 1 == 1) = bt n k := by
  rw [← bit_shr n hn k hk]
  have e : (n : Int) / 2 ^ k = ((n / 2 ^ k : Nat) : Int) := by
    rw [Int.natCast_ediv]
    simp
  have h := and64 (n / 2 ^ k) 1 (Nat.lt_of_le_of_lt (Nat.div_le_self _ _) hn) (by omega)
  rw [e]
  rw [show bits .and .u64 ((n / 2 ^ k : Nat) : Int) 1 = ((n / 2 ^ k &&& 1 : Nat) : Int) from h, Nat.and_one_is_mod]
  exact beq_cast _ _
set_option maxRecDepth 100000 in
set_option maxHeartbeats 8000000 in
theorem bits_any (n : Nat) (hn : n < 18446744073709551616) (w : World) : Calls Tryd.prog 20 #[.int .u64 (n : Int)] w fun e w' => e = .returned (.tuple #[.agg (b32A (bt n)), .bool (oddB n)]) ∧ Kp w w' := by
  obtain ⟨w0, hw0⟩ : ∃ w0, w0 = w.alloc (.cells (b32A noF) 31) := ⟨_, rfl⟩
  obtain ⟨w1, hw1⟩ : ∃ w1, w1 = w0.alloc (.cells (b32A noF) 31) := ⟨_, rfl⟩
  have s1 : w0.heap.size = w.heap.size + 1 := by rw [hw0]; simp
  have q0 : Bt w1 w.heap.size 0 noF := by rw [hw1, hw0]; exact (Bt.new w noF _).kept ((Kp.refl _).alloc _)
  have q1 : Bt w1 (w.heap.size + 1) 0 noF := by rw [hw1, ← s1]; exact Bt.new w0 noF _
  have k1 : Kp w w1 := by rw [hw1, hw0]; exact ((Kp.refl w).alloc _).alloc _
  have hz := zero_b32
  have HW := hid (And.intro hw0 hw1)
  have hI := hid (And.intro q0 (And.intro q1 k1))
  clear hw0 hw1 s1 q0 q1 k1
  go_enter Tryd.func20, Tryd.ntmps20
  go_upto_region 2 with fail
  change Code.wp _ _ _ _ ((w.alloc (.cells (b32A noF) 31)).alloc (.cells (b32A noF) 31))
  rw [← show w0 = w.alloc (.cells (b32A noF) 31) from HW.out.1, ← show w1 = w0.alloc (.cells (b32A noF) 31) from HW.out.2]
  clear HW hz
  go_wp2_with fail
  go_loopw [5, 6] (fun _ i wr => ∃ k : Nat, k ≤ 32 ∧ i = .int .i64 k ∧ Hid (Bt wr w.heap.size 0 noF ∧ Bt wr (w.heap.size + 1) 0 (fun j => decide (j < k) && bt n j) ∧ Kp w wr)) (fun _ i _ => 32 - (intOf i).toNat)
  case atStart => exact ⟨0, by omega, by go_num, hI.out.1, ⟨hI.out.2.1.lt, by rw [b32_congr (g := noF) (fun i _ => by simp [noF])]; exact hI.out.2.1.range, hI.out.2.1.z⟩, hI.out.2.2⟩
  case round =>
    clear hI
    obtain ⟨k, hk, rfl, HQ⟩ := hrel
    rename World => wr
    by_cases hk32 : k < 32
    · have hbv := shr_bit n hn k (by omega)
      have hki : (k : Int) < 32 := by omega
      have c1 := HQ.out.2.1.c k hk32
      have z1 := HQ.out.2.1.z k
      rw [Nat.zero_add] at c1
      obtain ⟨b, hb⟩ : ∃ b, b = bt n k := ⟨_, rfl⟩
      rw [← hb] at hbv
      have HN : Hid (Bt (wr.setCell ⟨w.heap.size + 1, k, none⟩ (.bool b)) w.heap.size 0 noF ∧ Bt (wr.setCell ⟨w.heap.size + 1, k, none⟩ (.bool b)) (w.heap.size + 1) 0 (fun j => decide (j < k + 1) && bt n j) ∧ Kp w (wr.setCell ⟨w.heap.size + 1, k, none⟩ (.bool b))) := by
        refine ⟨HQ.out.1.of_block (Below.heap_setCell _ _ _ _ (show w.heap.size ≠ w.heap.size + 1 by omega)) (by rw [size_set]; exact Nat.le_refl _), ?_, HQ.out.2.2.set (by omega) _ _⟩
        have := HQ.out.2.1.set k b
        rw [Nat.zero_add] at this
        refine ⟨this.lt, ?_, this.z⟩
        rw [b32_congr (f := fun j => decide (j < k + 1) && bt n j) (g := fun i => if i = k then b else decide (i < k) && bt n i) (fun i hi => by
          show (decide (i < k + 1) && bt n i) = if i = k then b else decide (i < k) && bt n i
          by_cases e : i = k
          · subst e; rw [if_pos rfl, decide_eq_true (by omega), Bool.true_and, hb]
          · rw [if_neg e, show decide (i < k + 1) = decide (i < k) from decide_eq_decide.2 (by omega)])]
        exact this.range
      clear HQ hb
      go_wp2
      go_roundw
      case rel => exact ⟨k + 1, by omega, by go_num, HN⟩
      case measure => simp [intOf]; omega
    · obtain rfl : k = 32 := by omega
      have hr : Hid (wr.rangeAt (w.heap.size + 1) 0 (b32A (bt n)).toList) := by
        show wr.rangeAt _ _ _
        rw [b32_congr (f := bt n) (g := fun j => decide (j < 32) && bt n j) (fun i hi => by rw [decide_eq_true hi, Bool.true_and])]
        exact HQ.out.2.1.range
      obtain ⟨V, hV⟩ : ∃ V, V = wr.setCells w.heap.size 0 (b32A (bt n)).toList := ⟨_, rfl⟩
      have HE : Hid (Bt V w.heap.size 0 (bt n) ∧ Kp w V) := by show _ ∧ _; rw [hV]; exact ⟨HQ.out.1.store _, kp_setCells HQ.out.2.2 _ _ (Nat.le_refl _) _⟩
      have hth := hid (there_of (b32_len noF) HQ.out.1.range HQ.out.1.z)
      have HV := hid hV
      have hod : ((n : Int) / 4294967296 != 0) = oddB n := by
        unfold oddB
        by_cases e : n / 4294967296 = 0
        · rw [decide_eq_false (by omega), show (n : Int) / 4294967296 = 0 by omega]; rfl
        · rw [decide_eq_true e]
          have : (n : Int) / 4294967296 ≠ 0 := by omega
          simpa using this
      obtain ⟨f, hf⟩ : ∃ f, f = bt n := ⟨_, rfl⟩
      rw [← hf] at hr HE HV
      have HF := hid hf
      clear hn HQ hV hf
      go_wp2_with (first
        | (refine wl_b32 rfl rfl rfl hr.out ?_)
        | (refine wl_b32s (f := f) rfl rfl rfl rfl rfl hth.out ?_; rw [← show V = wr.setCells w.heap.size 0 (b32A f).toList from HV.out]))
      refine bodyPost_ret (res_cell_tmp rfl _ _ w.heap.size (b32A f) rfl rfl HE.out.1.range Tryd.underlying31 rfl (by rw [b32_size, b32_sz])) rfl ?_
      exact ⟨by rw [← HF.out]; rfl, HE.out.2⟩

end Go.Proofs.YtffbachgbcefiaaDoor
