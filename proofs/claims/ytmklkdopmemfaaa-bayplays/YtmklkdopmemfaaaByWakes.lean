/-
  A contract of the law's own wakes; calls of a nil bay. No condition.
-/
import Derived.Test.YtmklkdopmemfaaaByCrash
namespace Go.Proofs.Ytmklkdopmemfaaa
open Go.RowKit Plain
set_option linter.unusedVariables false

theorem sc_zero : scS 0 false = z64 := by
  unfold scS z64
  kernel_rfl
def wk1 (A : ByteArray) : MS := ⟨[A, z64, z64, z64], [z64, z64, z64, z64], [(0, A)], false, up (fun _ => 0) 1⟩
theorem wk_new : ctB (nwB 2 4) 1 = ⟨some 1, 0, 0, [nw 4, nw 4]⟩ := rfl
theorem wk_a (A : ByteArray) (h : A.size = 64) : opE ⟨some 1, 0, 0, [nw 4, nw 4]⟩ 0 (fun S => wrE S 0 A) = 0 ∧ opS ⟨some 1, 0, 0, [nw 4, nw 4]⟩ 0 (fun S => wr S 0 A) = ⟨some 0, 1, 1, [wk1 A, nw 4]⟩ := by
  have h0 : stE ⟨some 1, 0, 0, [nw 4, nw 4]⟩ 0 = 0 := rfl
  have h1 := wr_live (L := [z64, z64, z64, z64]) (M := [z64, z64, z64, z64]) (r := []) (c := fun _ => 0) (by simp) A h
  unfold opE opS
  rw [if_pos h0, if_pos h0]
  refine ⟨h1.1, ?_⟩
  show (⟨some 0, 1, 1, [wr (nw 4) 0 A, nw 4]⟩ : BS) = _
  have e : wr (nw 4) 0 A = wk1 A := h1.2
  rw [e]
theorem wk_b (A : ByteArray) (s : ByteArray) : opE ⟨some 0, 1, 1, [wk1 A, nw 4]⟩ 1 (fun S => wrE S 0 s) = 21 ∧ opS ⟨some 0, 1, 1, [wk1 A, nw 4]⟩ 1 (fun S => wr S 0 s) = ⟨some 0, 1, 2, [wk1 A, nw 4]⟩ := ⟨rfl, rfl⟩
theorem wk_c (A : ByteArray) : crB ⟨some 0, 1, 2, [wk1 A, nw 4]⟩ (fun _ => []) = ⟨none, 1, 2, [⟨[z64, z64, z64, z64], [z64, z64, z64, z64], [], false, up (fun _ => 0) 1⟩, nw 4]⟩ := rfl
theorem wk_d (c : Nat → Int) : rdT ⟨none, 1, 2, [⟨[z64, z64, z64, z64], [z64, z64, z64, z64], [], false, c⟩, nw 4]⟩ 0 0 = z64 ∧ rdE ⟨none, 1, 2, [⟨[z64, z64, z64, z64], [z64, z64, z64, z64], [], false, c⟩, nw 4]⟩ 0 0 = 0 ∧ (rdB ⟨none, 1, 2, [⟨[z64, z64, z64, z64], [z64, z64, z64, z64], [], false, c⟩, nw 4]⟩ 0 0).md = 1 ∧ (rdB ⟨none, 1, 2, [⟨[z64, z64, z64, z64], [z64, z64, z64, z64], [], false, c⟩, nw 4]⟩ 0 0).ms.length = 2 ∧ lvL 0 (rdB ⟨none, 1, 2, [⟨[z64, z64, z64, z64], [z64, z64, z64, z64], [], false, c⟩, nw 4]⟩ 0 0).ms = [0, 1] := ⟨rfl, rfl, rfl, rfl, rfl⟩

set_option maxRecDepth 100000 in
set_option maxHeartbeats 2000000 in
theorem wakes_bay (w : World) : Calls Try.prog 9 #[] w fun e w' => e = .returned (.bool true) ∧ Kp w w' := by
  have sA := sector_any 97 (by omega) false
  have sB := sector_any 98 (by omega) false
  have sZ := sector_any 0 (by omega) false
  have zA := scS_size 97
  rw [sc_zero] at sZ
  obtain ⟨A, hA⟩ : ∃ A, A = scS 97 false := ⟨_, rfl⟩
  obtain ⟨C, hC⟩ : ∃ C, C = scS 98 false := ⟨_, rfl⟩
  obtain ⟨Z, hZ⟩ : ∃ Z, Z = z64 := ⟨_, rfl⟩
  rw [← hA] at sA zA
  rw [← hC] at sB
  rw [← hZ] at sZ
  have HA := hid zA
  have HZ := hid hZ
  clear hA hC zA hZ
  go_enter Try.func9, Try.ntmps9
  go_wp2_with fail
  refine (bw_new 2 4 w w (Kp.refl w)).mono ?_
  rintro e w1 ⟨b, T1, rfl, h1, k1, _⟩
  go_wp2_with fail
  refine (bw_cut h1 1 (by decide)).mono ?_
  rintro e w2 ⟨rfl, n2⟩
  rw [wk_new] at n2
  have K2 := n2.below OL.bw h1 k1
  obtain ⟨T2, h2, _, _⟩ := n2
  clear h1 k1
  go_wp2_with fail
  refine (sA w2).mono ?_
  rintro e w3 ⟨rfl, k3⟩
  have h3 := OL.bw.sp h2 (k3.sp []) (fun _ _ h => by cases h)
  have K3 := K2.trans k3
  clear h2 K2 k3
  go_wp2_with fail
  refine (bw_write h3 K3 0 0 A (by show 0 < 1000000; omega)).mono ?_
  rintro e w4 ⟨rfl, n4⟩
  rw [(wk_a A HA.out).1]
  rw [(wk_a A HA.out).2] at n4
  have K4 := n4.below OL.bw h3 K3
  obtain ⟨T4, h4, _, _⟩ := n4
  clear h3 K3
  go_wp2_with fail
  refine (sB w4).mono ?_
  rintro e w5 ⟨rfl, k5⟩
  have h5 := OL.bw.sp h4 (k5.sp []) (fun _ _ h => by cases h)
  have K5 := K4.trans k5
  clear h4 K4 k5
  go_wp2_with fail
  refine (bw_write h5 K5 1 0 C (by show 1 < 1000000; omega)).mono ?_
  rintro e w6 ⟨rfl, n6⟩
  rw [(wk_b A C).1]
  rw [(wk_b A C).2] at n6
  have K6 := n6.below OL.bw h5 K5
  obtain ⟨T6, h6, _, _⟩ := n6
  clear h5 K5
  go_wp2_with fail
  refine (bw_off h6).mono ?_
  rintro e w7 ⟨rfl, rfl⟩
  rw [show ofB ⟨some 0, 1, 2, [wk1 A, nw 4]⟩ = true from rfl]
  go_wp2_with fail
  refine (bw_crash h6 K6 _ 0 (fun _ => []) (Ks.none _ _ _) (by show 2 < 1000000; omega)).mono ?_
  rintro e w8 ⟨rfl, n8⟩
  rw [wk_c] at n8
  have K8 := n8.below OL.bw h6 K6
  obtain ⟨T8, h8, _, _⟩ := n8
  clear h6 K6
  obtain ⟨d1, d2, d3, d4, d5⟩ := wk_d (up (fun _ => 0) 1)
  go_wp2_with fail
  refine (bw_read h8 K8 0 0).mono ?_
  rintro e w9 ⟨rfl, n9⟩
  rw [d1, d2, ← HZ.out]
  have K9 := n9.below OL.bw h8 K8
  obtain ⟨T9, h9, _, _⟩ := n9
  obtain ⟨B9, hB9⟩ : ∃ B9, B9 = rdB ⟨none, 1, 2, [⟨[z64, z64, z64, z64], [z64, z64, z64, z64], [], false, up (fun _ => 0) 1⟩, nw 4]⟩ 0 0 := ⟨_, rfl⟩
  rw [← hB9] at h9 d3 d4 d5
  have D3 := hid d3
  have D4 := hid d4
  have D5 := hid d5
  clear h8 K8 d1 d2 d3 d4 d5 hB9
  go_wp2_with fail
  refine (sZ w9).mono ?_
  rintro e w10 ⟨rfl, k10⟩
  have h10 := OL.bw.sp h9 (k10.sp []) (fun _ _ h => by cases h)
  have K10 := K9.trans k10
  clear h9 K9 k10
  go_wp2_with fail
  refine (bw_steps h10).mono ?_
  rintro e w11 ⟨rfl, rfl⟩
  rw [D3.out]
  go_wp2_with fail
  refine (bw_size h10).mono ?_
  rintro e w11 ⟨rfl, rfl⟩
  rw [D4.out]
  go_wp2_with fail
  refine (bw_live h10).mono ?_
  rintro e w12 ⟨v, rfl, hl, h12, s12⟩
  rw [D5.out] at hl
  obtain ⟨a, g, cap, rfl, _⟩ := hl
  have K12 : Kp w w12 := Sp.kp K10 s12 (OL.bw.new h10)
  clear h10 h12 s12
  go_wp2
  go_ret
  exact ⟨rfl, K12⟩

end Go.Proofs.Ytmklkdopmemfaaa
