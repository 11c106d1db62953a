/-
  The contract of byBoth: two data columns brought back by P and Q. Conditions: that the row's cells hold what they are said to hold, columns of one length.
-/
import Derived.Test.YtbcmgogfpboibaaGreatDoorRepRow
namespace Go.Proofs.YtbcmgogfpboibaaGreatDoor
open Go.RowKit Plain Go.BigFrame

theorem u8_xor (x y : Nat) (hx : x < 256) (hy : y < 256) : bits .xor .u8 (x : Int) (y : Int) = ((x ^^^ y : Nat) : Int) := by
  have e1 : (BitVec.ofInt 8 (x : Int)).toNat = x := by rw [BitVec.toNat_ofInt]; omega
  have e2 : (BitVec.ofInt 8 (y : Int)).toNat = y := by rw [BitVec.toNat_ofInt]; omega
  show IntKind.u8.wrap ((BitVec.ofInt 8 (x : Int) ^^^ BitVec.ofInt 8 (y : Int)).toNat : Nat) = _
  rw [BitVec.toNat_xor, e1, e2, IntKind.wrap_u8]
  have := Nat.xor_lt_two_pow (n := 8) hx hy
  omega

set_option maxRecDepth 100000 in
set_option maxHeartbeats 8000000 in
theorem byBoth_any {w : World} {R f b C k cap n : Nat} {gv : Value} {L : List ByteArray} {cnt : Nat → Int} (h : RowIn w R f b C k cap gv L cnt) (hk1 : 2 ≤ k) (hk2 : k ≤ 30) (hn : n ≤ 65536) (hs : Sz n L) (i j : Nat) (hi : i < k) (hj : j < k) (hij : i ≠ j) :
    Calls Tryz.prog 43 #[.pointer (some ⟨R, 0, none⟩), .int .i64 (i : Int), .int .i64 (j : Int)] w fun e w' => e = .returned (.tuple #[]) ∧ RowIn w' R f b C k cap gv (byBL n k L i j) cnt ∧ Sp [C, b] w w' := by
  have hl := h.len
  have hP := lackP_any h hk1 hk2 hn hs
  have hQ := fun (w' : World) (h' : RowIn w' R f b C k cap gv L cnt) => lackQ_any h' hk1 hk2 hn hs
  have hW1 := fun w' => power_any (i : Int) (by omega) (by omega) w'
  rw [pwI_in i (by omega)] at hW1
  have hW2 := fun w' => power_any (j : Int) (by omega) (by omega) w'
  rw [pwI_in j (by omega)] at hW2
  have zP : (lkP n k L).size = n := lkP_size hs
  have zQ : (lkQ n k L).size = n := lkQ_size hs (by omega)
  have hF := fun w' => fold2 (lkQ n k L) (pw j) (pw_lt j) (lkP n k L) (by rw [zQ]; exact hn) (by rw [zP, zQ]) w'
  have zF : (foldS (lkQ n k L) (pw j) (lkP n k L)).size = n := by rw [foldS_size, zP]
  have hD := fun (w' : World) (h' : RowIn w' R f b C k cap gv L cnt) => divided_any h' (foldS (lkQ n k L) (pw j) (lkP n k L)) (by rw [zF]; exact hn) (pw i ^^^ pw j) (pw_x_lt i j) (pw_apart (by omega) (by omega) hij)
  rw [show dvS (pw i ^^^ pw j) (foldS (lkQ n k L) (pw j) (lkP n k L)) = firstS n k L i j from rfl] at hD
  have zX : (firstS n k L i j).size = n := by unfold firstS; rw [dvS_size, zF]
  have hX := u8_xor (pw i) (pw j) (pw_lt i) (pw_lt j)
  have hA : ∀ w' : World, Calls Tryz.prog 38 #[.slice (some ⟨w'.heap.size, 0, none⟩) 2 2] (w'.alloc (.cells #[.string (lkP n k L), .string (firstS n k L i j)] 9)).drew fun e w'' => e = .returned (.tuple #[.string (foldS (lkP n k L) 1 (firstS n k L i j)), .int .i64 0]) ∧ Kp w' w'' := fun w' =>
    (add2 _ _ (by rw [zP]; exact hn) (by rw [zX, zP]) _ _ ((StrsIn.lit2 w' _ _ 9).kept (Kp.refl _).drew)).mono fun _ _ ⟨he, k⟩ => ⟨he, (((Kp.refl w').alloc _).drew).trans k⟩
  unfold byBL
  obtain ⟨Y, hY⟩ : ∃ S, S = foldS (lkP n k L) 1 (firstS n k L i j) := ⟨_, rfl⟩
  rw [← hY] at hA ⊢
  obtain ⟨P, hP'⟩ : ∃ S, S = lkP n k L := ⟨_, rfl⟩
  obtain ⟨Q, hQ'⟩ : ∃ S, S = lkQ n k L := ⟨_, rfl⟩
  obtain ⟨X, hX'⟩ : ∃ S, S = firstS n k L i j := ⟨_, rfl⟩
  rw [← hP'] at hP hA hF hD
  rw [← hQ'] at hQ hF hD
  rw [← hX'] at hA hD ⊢
  obtain ⟨F, hF'⟩ : ∃ S, S = foldS Q (pw j) P := ⟨_, rfl⟩
  rw [← hF'] at hF hD
  obtain ⟨c1, hc1⟩ : ∃ S, S = pw i := ⟨_, rfl⟩
  obtain ⟨c2, hc2⟩ : ∃ S, S = pw j := ⟨_, rfl⟩
  rw [← hc1] at hW1 hD hX
  rw [← hc2] at hW2 hD hF hX
  obtain ⟨c3, hc3⟩ : ∃ S, S = c1 ^^^ c2 := ⟨_, rfl⟩
  rw [← hc3] at hD hX
  have i1 : (0 : Int) ≤ (i : Int) := by omega
  have i2 : (i : Int) < (k : Int) + 2 := by omega
  have j1 : (0 : Int) ≤ (j : Int) := by omega
  have j2 : (j : Int) < (k : Int) + 2 := by omega
  clear hY hP' hQ' hX' hF' hc1 hc2 hc3 hs hl zP zQ zF zX
  have H : Hid (RowIn w R f b C k cap gv L cnt) := h
  clear h
  go_enter Tryz.func43, Tryz.ntmps43
  go_wp2_with fail
  refine hP.mono ?_; rintro e w1 ⟨rfl, k1⟩
  go_wp2_with fail
  refine (hW1 w1).mono ?_; rintro e w2 ⟨rfl, k2⟩
  go_wp2_with fail
  refine (hW2 w2).mono ?_; rintro e w3 ⟨rfl, k3⟩
  have K3 := (k1.trans k2).trans k3
  have h3 := H.out.kp K3
  clear hP hW1 hW2 k1 k2 k3 H
  go_wp2_with fail
  refine (hQ w3 h3).mono ?_; rintro e w4 ⟨rfl, k4⟩
  go_wp2_with fail
  refine (hF w4).mono ?_; rintro e w5 ⟨rfl, k5⟩
  have h5 := (h3.kp k4).kp k5
  have K5 := (K3.trans k4).trans k5
  clear hQ hF h3 K3 k4 k5
  have h5d := h5.kp (Kp.refl w5).drew
  obtain ⟨e2, _, _, _⟩ := h5.facts i (by omega)
  have HD := hD _ h5d
  clear hD
  have HK5 : Hid (Kp w w5) := K5
  have H5 : Hid (RowIn w5 R f b C k cap gv L cnt) := h5
  clear h5 h5d K5
  go_wp2_with fail
  go_region_held3 (fun w' => w'.cell? ⟨R, 2, none⟩ = some (.slice (some ⟨C, 0, none⟩) (k + 2) cap)) (first | go_keep | exact f1 | exact f4 _)
    (first
      | (go_at_call 60; refine HD.mono ?_; rintro e w6 ⟨rfl, h6, k6⟩; obtain ⟨f1, f2, f3, f4⟩ := h6.facts i (by omega)))
  have h7 := h6.set i (by omega) X
  have K7 : Sp [C, b] w (w6.setCell ⟨C, i, none⟩ (.string X)) := ((HK5.out.drew.sp [C, b]).trans (k6.mono (by simp))).set C i (by simp) _
  obtain ⟨w7, hw7⟩ : ∃ w7, w7 = w6.setCell ⟨C, i, none⟩ (.string X) := ⟨_, rfl⟩
  rw [← hw7] at h7 K7 ⊢
  clear hw7 f1 f2 f3 f4 h6 k6 HD H5 HK5 e2
  obtain ⟨e2, _, _, _⟩ := h7.facts j (by omega)
  have e3 := h7.cols.c i (by rw [h7.len]; omega)
  rw [getD_set_eq (by have := h7.len; rw [List.length_set] at this; omega)] at e3
  have n1 := World.new_ne w7 _ e2
  have n2 := World.new_ne w7 _ e3
  have HK7 : Hid (Sp [C, b] w w7) := K7
  have H7 : Hid (RowIn w7 R f b C k cap gv (L.set i X) cnt) := h7
  have hne : ∀ v (W : World), (W.setCell ⟨C, j, none⟩ v).cell? ⟨C, i, none⟩ = W.cell? ⟨C, i, none⟩ := fun v W => cell_off W C j i v hij
  clear h7 K7
  go_wp2_with fail
  go_region_held3 (fun w' => w'.cell? ⟨R, 2, none⟩ = some (.slice (some ⟨C, 0, none⟩) (k + 2) cap) ∧ w'.cell? ⟨C, i, none⟩ = some (.string X)) (first | go_keep | exact ⟨f1, f5⟩ | exact ⟨f4 _, (hne _ _).trans f5⟩)
    (first
      | (go_at_call 38; refine (hA _).mono ?_; rintro e w8 ⟨rfl, k8⟩; have h8 := H7.out.kp k8; obtain ⟨f1, f2, f3, f4⟩ := h8.facts j (by omega); have f5 := k8.held e3))
  go_end0
  exact ⟨rfl, h8.set j (by omega) Y, (HK7.out.trans (k8.sp [C, b])).set C j (by simp) _⟩

end Go.Proofs.YtbcmgogfpboibaaGreatDoor
