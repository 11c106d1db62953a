/-
  A contract of settle: all that waits lasts. Conditions: that the member lies in memory.
-/
import Derived.Test.YtmklkdopmemfaaaMmCopy
namespace Go.Proofs.Ytmklkdopmemfaaa
open Go.RowKit Plain
set_option linter.unusedVariables false

set_option maxRecDepth 100000 in
set_option maxHeartbeats 1000000 in
theorem settle_any {w : World} {b bn bl : Nat} {rv : Value} {S : MS} {x y : Int} (h : MemIn w b bn bl rv S x y) : Calls Try.prog 74 #[.pointer (some ⟨b, 0, none⟩)] w fun e w' => e = .returned (.tuple #[]) ∧ MemIn w' b bn bl (.slice none 0 0) ⟨S.now, pl S.las S.row, [], S.dead, S.c⟩ x y ∧ Sp [b, bl] w w' := by
  obtain ⟨a, cap, rfl, hn1, hn2⟩ := h.rw.len
  obtain ⟨n, hn⟩ : ∃ n, n = S.row.length := ⟨_, rfl⟩
  rw [← hn] at h hn1
  have HN : Hid (n = S.row.length) := hn
  have cR := h.cR
  clear hn
  go_enter Try.func74, Try.ntmps74
  go_wp2_with fail
  go_loopw [9] (fun i wr => ∃ k : Nat, k ≤ n ∧ i = .int .i64 k ∧ MemIn wr b bn bl (.slice a n cap) ⟨S.now, pl S.las (S.row.take k), S.row, S.dead, S.c⟩ x y ∧ Sp [bl] w wr) (fun i _ => n - (intOf i).toNat)
  case atStart => exact ⟨0, by omega, by go_num, h, Sp.refl _ _⟩
  case round =>
    clear cR h
    obtain ⟨k, hk, rfl, hM, hK⟩ := hrel
    by_cases hlt : k < n
    · obtain ⟨g, cap', hv, hc1, hc2, ht, hrg⟩ := hM.rw.some (show 0 < S.row.length by rw [← HN.out]; omega)
      obtain rfl : a = some ⟨g, 0, none⟩ := by simp only [Value.slice.injEq] at hv; exact hv.1
      clear hv hc1 hc2 ht
      have hks : k < S.row.length := by rw [← HN.out]; exact hlt
      have hr := hrg k hks
      have hpt := pl_take S.las S.row k hks
      have hpb := hM.fine.br (S.row.getD k (0, noS)) (by rw [List.getD_eq_getElem?_getD, List.getElem?_eq_getElem hks]; exact List.getElem_mem hks)
      simp only at hr
      obtain ⟨p, hp⟩ : ∃ p, p = S.row.getD k (0, noS) := ⟨_, rfl⟩
      rw [← hp] at hr hpt hpb
      obtain ⟨hp1, hp2⟩ := hpb
      rw [pl_len] at hp1
      have HP : Hid (pl S.las (List.take (k + 1) S.row) = (pl S.las (List.take k S.row)).set p.1 p.2) := hpt
      have HT : Hid (∀ i, i < S.row.length → wr.rangeAt g (i * 65) (wc (S.row.getD i (0, noS)))) := hrg
      have HM : Hid (MemIn wr b bn bl (.slice (some ⟨g, 0, none⟩) n cap) ⟨S.now, pl S.las (S.row.take k), S.row, S.dead, S.c⟩ x y) := hM
      clear hp hpt hrg hM
      go_wp2_with (first | refine wpList_load_w rfl _ rfl g (k * 65) rfl p hp2 hr ?_ | refine wpList_store_new rfl _ _ rfl p hp2 _ rfl rfl rfl ?_)
      intro w2 k2 V2 hl2
      have M2 := HM.out.kp k2
      obtain ⟨K, hKK⟩ : ∃ K, K = wr.heap.size := ⟨_, rfl⟩
      rw [← hKK] at V2 hl2 ⊢
      have hKl : bl < wr.heap.size := by
        obtain ⟨v, hv⟩ := Option.isSome_iff_exists.1 (HM.out.sl.t 0 (by rw [pl_len]; have := HM.out.fine.n1; simp only [pl_len] at this; omega)).1
        exact World.block_lt_of_cell? wr _ hv
      have hne : bl ≠ K := by omega
      have hW : w.heap.size ≤ K := by rw [hKK]; exact hK.size
      clear hKK HM hKl hr
      have cL := M2.cL
      have nl : ((pl S.las (S.row.take k)).length : Int) ≤ 256 := by have := M2.fine.n2; simp only at this; omega
      have nl2 : (p.1 : Int) < ((pl S.las (S.row.take k)).length : Int) := by rw [pl_len]; omega
      obtain ⟨m, hm⟩ : ∃ m, m = (pl S.las (S.row.take k)).length := ⟨_, rfl⟩
      simp only at cL
      rw [← hm] at nl nl2 cL
      have va := V2.at
      obtain ⟨j, hj⟩ : ∃ j, j = p.1 := ⟨_, rfl⟩
      rw [← hj] at nl2 va
      have HJ : Hid (j = p.1) := hj
      have HM2 : Hid (m = (pl S.las (S.row.take k)).length) := hm
      clear hj hm
      have q1 := kpw_cell cL
      have q2 := kpw_cell va
      go_wp2_with fail
      refine wp_region_tailc2 rfl (by kernel_rfl) (by kernel_rfl) (by kernel_rfl) ?_
      simp only [List.dropLast]
      repeat (first
        | go_big_quiet_skip
        | (go_big_quiet_want; go_big_quiet_op; go_big_quiet_on))
      refine wpQuiet_nil ?_
      rintro w9 ⟨q, hp9⟩
      have kD : Kp w2 w9 := by rw [hp9]; exact kpw_kp w2 q
      clear hp9 q1 q2
      have M9 := M2.kp kD
      have V9 := V2.sp (kD.sp []) (by simp)
      have hcp := run_copy_byt w9 3 bl (j * 64) 64 K 1 64 (byteCells p.2) (by rw [bc_len]; exact hp2) (bc_one _) (M9.sl.at (by rw [HJ.out, pl_len]; exact hp1)) V9.bytes
      have hsp : Sp [bl] w9 (w9.setCells bl (j * 64) (byteCells p.2)) := Sp.setCells bl (by simp) _ _ _ (Sp.refl _ _)
      have M10 := M9.lasts hsp ((pl S.las (S.row.take k)).set p.1 p.2) (by rw [HJ.out]; exact M9.sl.set p.1 (by rw [pl_len]; exact hp1) p.2 hp2) (by simp)
      simp only at M10
      rw [← HP.out] at M10
      have S10 : Sp [bl] w (w9.setCells bl (j * 64) (byteCells p.2)) := ((hK.trans (k2.sp _)).trans (kD.sp _)).trans hsp
      obtain ⟨w10, hw10⟩ : ∃ w10, w10 = w9.setCells bl (j * 64) (byteCells p.2) := ⟨_, rfl⟩
      rw [← hw10] at hcp M10 S10
      clear M9 V9 hsp hw10 M2 V2 cL va
      refine wpList_copy_run rfl (.tmp 20) (.tmp 22) 103 103 rfl _ _ _ _ rfl rfl hcp ?_
      go_wp2
      go_roundw
      case rel => exact ⟨k + 1, by omega, by go_num, M10, S10⟩
      case measure => simp [intOf]; omega
    · obtain rfl : k = n := by omega
      have cR := hM.cR
      have z12 := hM.z 12
      go_wp2
      have h3 := hM.row (Sp.refl _ _) (.slice none 0 0) [] (RowIn.nil _) (fun g hg => by cases hg) (fun p hp => by cases hp)
      simp only at h3
      rw [show S.row.take k = S.row by rw [HN.out, List.take_length]] at h3
      go_end0
      exact ⟨rfl, h3, (hK.mono (fun t ht => by simp at ht; simp [ht])).set b 12 (by simp) _⟩

end Go.Proofs.Ytmklkdopmemfaaa
