/-
  Contract of the law function GfOnce: for every slice of bytes and every two bytes it returns true; nothing that was there has turned. Condition: the slice's cells hold bytes.
-/
import Derived.Test.YtpibjendlaepgaaWakes2
import Derived.Test.YtpibjendlaepgaaArgs
namespace Go.Proofs.Ytpibjendlaepgaa
open Go.RowKit Plain

theorem two_bits (z : Int) (h0 : 0 ≤ z) (h1 : z < 256) : bits .and .u8 z 3 = 0 ∨ bits .and .u8 z 3 = 1 ∨ bits .and .u8 z 3 = 2 ∨ bits .and .u8 z 3 = 3 := by
  have h := bits_mask .u8 8 (by decide) wraps_u8 2 (by decide) z h0 h1
  have e : bits .and .u8 z 3 = z % 4 := h
  omega
/-- the two fields in the loop: f behind j rounds, the other one as it was made. -/
structure Both (w wr : World) (F G : Nat) (j : Nat) : Prop where
  fresh : j = 0 → Fresh wr F
  ready : j ≠ 0 → Ready wr F
  other : Fresh wr G
  past : Past w wr

set_option maxRecDepth 100000 in
set_option maxHeartbeats 4000000 in
theorem once_some (b off n cap : Nat) (zs : List Int) (x y : Nat) (hx : x < 256) (hy : y < 256) (w : World) (hb : b < w.heap.size) (h1 : n ≤ cap) (h2 : cap ≤ maxLen) (hc : ∀ i, i < n → w.cell? ⟨b, off + i, none⟩ = some (.int .u8 (zs.getD i 0))) (hz : ∀ i, 0 ≤ zs.getD i 0 ∧ zs.getD i 0 < 256) :
    Calls Try.prog 5 #[.slice (some ⟨b, off, none⟩) n cap, .int .u8 x, .int .u8 y] w fun e w' => e = .returned (.bool true) ∧ Past w w' := by
  unfold maxLen at h2
  go_enter Try.func5, Try.ntmps5
  go_wp2_with fail
  refine (wakes_any w).mono ?_; rintro e w1 ⟨rfl, R1, P1⟩
  go_wp2_with fail
  refine (new_any w1).mono ?_; rintro e w2 ⟨rfl, hw2⟩
  have F1 : Fresh w2 w1.heap.size := by rw [hw2]; exact new_field w1 _
  have P2 : Past w w2 := by rw [hw2]; exact P1.alloc _ _
  have hFG : Hid (w1.heap.size ≠ w2.heap.size) := by show w1.heap.size ≠ w2.heap.size; rw [hw2]; simp
  have hF : Hid (w.heap.size ≤ w1.heap.size) := P1.size
  clear hw2 R1 P1
  generalize w1.heap.size = F at *
  go_wp2_with fail
  refine (new_any w2).mono ?_; rintro e w3 ⟨rfl, hw3⟩
  have F2 : Fresh w3 F := FieldIn.ext F1 (by rw [hw3]; exact (Ext.refl _).alloc _ _)
  have G2 : Fresh w3 w2.heap.size := by rw [hw3]; exact new_field w2 _
  have P3 : Past w w3 := by rw [hw3]; exact P2.alloc _ _
  clear hw3 F1 P2
  generalize w2.heap.size = G at *
  by_cases hn : n ≤ 40
  · have hn2 : ¬ (40 : Int) < n := by omega
    go_wp2_with fail
    go_loopw [25] (fun i wr => ∃ j : Nat, j ≤ n ∧ i = .int .i64 j ∧ Both w wr F G j) (fun i _ => n - (intOf i).toNat)
    case atStart => exact ⟨0, by omega, rfl, fun _ => F2, fun h => absurd rfl h, G2, P3⟩
    case round =>
      obtain ⟨j, hj, rfl, hB⟩ := hrel
      by_cases hlt : j < n
      · have hcj : wr.cell? ⟨b, off + j, none⟩ = some (.int .u8 (zs.getD j 0)) := (World.cell?_of_block (w := w) (a := ⟨b, off + j, none⟩) (hB.past.block b hb)).trans (hc j (by omega))
        have hzj := hz j
        have h2b := two_bits _ hzj.1 hzj.2
        have PB := hB.past
        have GB := hB.other
        clear hc hz
        generalize zs.getD j 0 = z at *
        by_cases hj0 : j = 0
        · have FB : Fresh wr F := hB.fresh hj0
          subst hj0
          rw [Nat.add_zero] at hcj
          clear hB
          go_wp2_with fail
          refine (made_any F 0 0 0 0 _ FB).mono ?_; rintro e w' ⟨rfl, rfl⟩
          go_wp2_with fail
          refine (made_any F 0 0 0 0 _ FB).mono ?_; rintro e w' ⟨rfl, rfl⟩
          rcases h2b with h2b | h2b | h2b | h2b
          · go_wp2_with fail
            refine (fmul_any F x y hx hy _ (Or.inl FB)).mono ?_; rintro e w4 ⟨rfl, R4, T4⟩
            have G4 : Fresh w4 G := FieldIn.other GB T4 (fun h => hFG.out h.symm)
            have P4 : Past w w4 := PB.turned T4 hF.out
            clear T4
            go_wp2_with fail
            refine (made_any F 1 0 1 255 _ R4).mono ?_; rintro e w' ⟨rfl, rfl⟩
            go_wp2
            go_roundw
            case rel => exact ⟨1, by omega, by go_num, fun h => absurd h (by omega), fun _ => R4, G4, P4⟩
            case measure => simp [intOf] <;> omega
          · go_wp2_with fail
            refine (fdiv_any F x y hx hy _ (Or.inl FB)).mono ?_; rintro e w4 ⟨rfl, R4, T4⟩
            have G4 : Fresh w4 G := FieldIn.other GB T4 (fun h => hFG.out h.symm)
            have P4 : Past w w4 := PB.turned T4 hF.out
            clear T4
            go_wp2_with fail
            refine (made_any F 1 0 1 255 _ R4).mono ?_; rintro e w' ⟨rfl, rfl⟩
            go_wp2
            go_roundw
            case rel => exact ⟨1, by omega, by go_num, fun h => absurd h (by omega), fun _ => R4, G4, P4⟩
            case measure => simp [intOf] <;> omega
          · go_wp2_with fail
            refine (fexp_any F (x : Nat) _ (Or.inl FB)).mono ?_; rintro e w4 ⟨rfl, R4, T4⟩
            have G4 : Fresh w4 G := FieldIn.other GB T4 (fun h => hFG.out h.symm)
            have P4 : Past w w4 := PB.turned T4 hF.out
            clear T4
            go_wp2_with fail
            refine (made_any F 1 0 1 255 _ R4).mono ?_; rintro e w' ⟨rfl, rfl⟩
            go_wp2
            go_roundw
            case rel => exact ⟨1, by omega, by go_num, fun h => absurd h (by omega), fun _ => R4, G4, P4⟩
            case measure => simp [intOf] <;> omega
          · go_wp2_with fail
            refine (flog_any F x hx _ (Or.inl FB)).mono ?_; rintro e w4 ⟨rfl, R4, T4⟩
            have G4 : Fresh w4 G := FieldIn.other GB T4 (fun h => hFG.out h.symm)
            have P4 : Past w w4 := PB.turned T4 hF.out
            clear T4
            go_wp2_with fail
            refine (made_any F 1 0 1 255 _ R4).mono ?_; rintro e w' ⟨rfl, rfl⟩
            go_wp2
            go_roundw
            case rel => exact ⟨1, by omega, by go_num, fun h => absurd h (by omega), fun _ => R4, G4, P4⟩
            case measure => simp [intOf] <;> omega
        · have FB : Ready wr F := hB.ready hj0
          have hje : ((j : Int) == 0) = false := by simp; omega
          clear hB
          go_wp2_with fail
          refine (made_any F 1 0 1 255 _ FB).mono ?_; rintro e w' ⟨rfl, rfl⟩
          go_wp2_with fail
          refine (made_any F 1 0 1 255 _ FB).mono ?_; rintro e w' ⟨rfl, rfl⟩
          rcases h2b with h2b | h2b | h2b | h2b
          · go_wp2_with fail
            refine (fmul_any F x y hx hy _ (Or.inr FB)).mono ?_; rintro e w4 ⟨rfl, R4, T4⟩
            have G4 : Fresh w4 G := FieldIn.other GB T4 (fun h => hFG.out h.symm)
            have P4 : Past w w4 := PB.turned T4 hF.out
            clear T4
            go_wp2_with fail
            refine (made_any F 1 0 1 255 _ R4).mono ?_; rintro e w' ⟨rfl, rfl⟩
            go_wp2
            go_roundw
            case rel => exact ⟨j + 1, by omega, by go_num, fun h => absurd h (by omega), fun _ => R4, G4, P4⟩
            case measure => simp [intOf] <;> omega
          · go_wp2_with fail
            refine (fdiv_any F x y hx hy _ (Or.inr FB)).mono ?_; rintro e w4 ⟨rfl, R4, T4⟩
            have G4 : Fresh w4 G := FieldIn.other GB T4 (fun h => hFG.out h.symm)
            have P4 : Past w w4 := PB.turned T4 hF.out
            clear T4
            go_wp2_with fail
            refine (made_any F 1 0 1 255 _ R4).mono ?_; rintro e w' ⟨rfl, rfl⟩
            go_wp2
            go_roundw
            case rel => exact ⟨j + 1, by omega, by go_num, fun h => absurd h (by omega), fun _ => R4, G4, P4⟩
            case measure => simp [intOf] <;> omega
          · go_wp2_with fail
            refine (fexp_any F (x : Nat) _ (Or.inr FB)).mono ?_; rintro e w4 ⟨rfl, R4, T4⟩
            have G4 : Fresh w4 G := FieldIn.other GB T4 (fun h => hFG.out h.symm)
            have P4 : Past w w4 := PB.turned T4 hF.out
            clear T4
            go_wp2_with fail
            refine (made_any F 1 0 1 255 _ R4).mono ?_; rintro e w' ⟨rfl, rfl⟩
            go_wp2
            go_roundw
            case rel => exact ⟨j + 1, by omega, by go_num, fun h => absurd h (by omega), fun _ => R4, G4, P4⟩
            case measure => simp [intOf] <;> omega
          · go_wp2_with fail
            refine (flog_any F x hx _ (Or.inr FB)).mono ?_; rintro e w4 ⟨rfl, R4, T4⟩
            have G4 : Fresh w4 G := FieldIn.other GB T4 (fun h => hFG.out h.symm)
            have P4 : Past w w4 := PB.turned T4 hF.out
            clear T4
            go_wp2_with fail
            refine (made_any F 1 0 1 255 _ R4).mono ?_; rintro e w' ⟨rfl, rfl⟩
            go_wp2
            go_roundw
            case rel => exact ⟨j + 1, by omega, by go_num, fun h => absurd h (by omega), fun _ => R4, G4, P4⟩
            case measure => simp [intOf] <;> omega
      · have hjn : j = n := by omega
        have GB := hB.other
        have PB := hB.past
        clear hB
        go_wp2_with fail
        refine (made_any G 0 0 0 0 _ GB).mono ?_; rintro e w' ⟨rfl, rfl⟩
        go_wp2
        go_ret
        exact ⟨rfl, PB⟩
  · have hn2 : (40 : Int) < n := by omega
    go_wp2_with fail
    go_loopw [25] (fun i wr => ∃ j : Nat, j ≤ 40 ∧ i = .int .i64 j ∧ Both w wr F G j) (fun i _ => 40 - (intOf i).toNat)
    case atStart => exact ⟨0, by omega, rfl, fun _ => F2, fun h => absurd rfl h, G2, P3⟩
    case round =>
      obtain ⟨j, hj, rfl, hB⟩ := hrel
      by_cases hlt : j < 40
      · have hcj : wr.cell? ⟨b, off + j, none⟩ = some (.int .u8 (zs.getD j 0)) := (World.cell?_of_block (w := w) (a := ⟨b, off + j, none⟩) (hB.past.block b hb)).trans (hc j (by omega))
        have hzj := hz j
        have h2b := two_bits _ hzj.1 hzj.2
        have PB := hB.past
        have GB := hB.other
        clear hc hz
        generalize zs.getD j 0 = z at *
        by_cases hj0 : j = 0
        · have FB : Fresh wr F := hB.fresh hj0
          subst hj0
          rw [Nat.add_zero] at hcj
          clear hB
          go_wp2_with fail
          refine (made_any F 0 0 0 0 _ FB).mono ?_; rintro e w' ⟨rfl, rfl⟩
          go_wp2_with fail
          refine (made_any F 0 0 0 0 _ FB).mono ?_; rintro e w' ⟨rfl, rfl⟩
          rcases h2b with h2b | h2b | h2b | h2b
          · go_wp2_with fail
            refine (fmul_any F x y hx hy _ (Or.inl FB)).mono ?_; rintro e w4 ⟨rfl, R4, T4⟩
            have G4 : Fresh w4 G := FieldIn.other GB T4 (fun h => hFG.out h.symm)
            have P4 : Past w w4 := PB.turned T4 hF.out
            clear T4
            go_wp2_with fail
            refine (made_any F 1 0 1 255 _ R4).mono ?_; rintro e w' ⟨rfl, rfl⟩
            go_wp2
            go_roundw
            case rel => exact ⟨1, by omega, by go_num, fun h => absurd h (by omega), fun _ => R4, G4, P4⟩
            case measure => simp [intOf] <;> omega
          · go_wp2_with fail
            refine (fdiv_any F x y hx hy _ (Or.inl FB)).mono ?_; rintro e w4 ⟨rfl, R4, T4⟩
            have G4 : Fresh w4 G := FieldIn.other GB T4 (fun h => hFG.out h.symm)
            have P4 : Past w w4 := PB.turned T4 hF.out
            clear T4
            go_wp2_with fail
            refine (made_any F 1 0 1 255 _ R4).mono ?_; rintro e w' ⟨rfl, rfl⟩
            go_wp2
            go_roundw
            case rel => exact ⟨1, by omega, by go_num, fun h => absurd h (by omega), fun _ => R4, G4, P4⟩
            case measure => simp [intOf] <;> omega
          · go_wp2_with fail
            refine (fexp_any F (x : Nat) _ (Or.inl FB)).mono ?_; rintro e w4 ⟨rfl, R4, T4⟩
            have G4 : Fresh w4 G := FieldIn.other GB T4 (fun h => hFG.out h.symm)
            have P4 : Past w w4 := PB.turned T4 hF.out
            clear T4
            go_wp2_with fail
            refine (made_any F 1 0 1 255 _ R4).mono ?_; rintro e w' ⟨rfl, rfl⟩
            go_wp2
            go_roundw
            case rel => exact ⟨1, by omega, by go_num, fun h => absurd h (by omega), fun _ => R4, G4, P4⟩
            case measure => simp [intOf] <;> omega
          · go_wp2_with fail
            refine (flog_any F x hx _ (Or.inl FB)).mono ?_; rintro e w4 ⟨rfl, R4, T4⟩
            have G4 : Fresh w4 G := FieldIn.other GB T4 (fun h => hFG.out h.symm)
            have P4 : Past w w4 := PB.turned T4 hF.out
            clear T4
            go_wp2_with fail
            refine (made_any F 1 0 1 255 _ R4).mono ?_; rintro e w' ⟨rfl, rfl⟩
            go_wp2
            go_roundw
            case rel => exact ⟨1, by omega, by go_num, fun h => absurd h (by omega), fun _ => R4, G4, P4⟩
            case measure => simp [intOf] <;> omega
        · have FB : Ready wr F := hB.ready hj0
          have hje : ((j : Int) == 0) = false := by simp; omega
          clear hB
          go_wp2_with fail
          refine (made_any F 1 0 1 255 _ FB).mono ?_; rintro e w' ⟨rfl, rfl⟩
          go_wp2_with fail
          refine (made_any F 1 0 1 255 _ FB).mono ?_; rintro e w' ⟨rfl, rfl⟩
          rcases h2b with h2b | h2b | h2b | h2b
          · go_wp2_with fail
            refine (fmul_any F x y hx hy _ (Or.inr FB)).mono ?_; rintro e w4 ⟨rfl, R4, T4⟩
            have G4 : Fresh w4 G := FieldIn.other GB T4 (fun h => hFG.out h.symm)
            have P4 : Past w w4 := PB.turned T4 hF.out
            clear T4
            go_wp2_with fail
            refine (made_any F 1 0 1 255 _ R4).mono ?_; rintro e w' ⟨rfl, rfl⟩
            go_wp2
            go_roundw
            case rel => exact ⟨j + 1, by omega, by go_num, fun h => absurd h (by omega), fun _ => R4, G4, P4⟩
            case measure => simp [intOf] <;> omega
          · go_wp2_with fail
            refine (fdiv_any F x y hx hy _ (Or.inr FB)).mono ?_; rintro e w4 ⟨rfl, R4, T4⟩
            have G4 : Fresh w4 G := FieldIn.other GB T4 (fun h => hFG.out h.symm)
            have P4 : Past w w4 := PB.turned T4 hF.out
            clear T4
            go_wp2_with fail
            refine (made_any F 1 0 1 255 _ R4).mono ?_; rintro e w' ⟨rfl, rfl⟩
            go_wp2
            go_roundw
            case rel => exact ⟨j + 1, by omega, by go_num, fun h => absurd h (by omega), fun _ => R4, G4, P4⟩
            case measure => simp [intOf] <;> omega
          · go_wp2_with fail
            refine (fexp_any F (x : Nat) _ (Or.inr FB)).mono ?_; rintro e w4 ⟨rfl, R4, T4⟩
            have G4 : Fresh w4 G := FieldIn.other GB T4 (fun h => hFG.out h.symm)
            have P4 : Past w w4 := PB.turned T4 hF.out
            clear T4
            go_wp2_with fail
            refine (made_any F 1 0 1 255 _ R4).mono ?_; rintro e w' ⟨rfl, rfl⟩
            go_wp2
            go_roundw
            case rel => exact ⟨j + 1, by omega, by go_num, fun h => absurd h (by omega), fun _ => R4, G4, P4⟩
            case measure => simp [intOf] <;> omega
          · go_wp2_with fail
            refine (flog_any F x hx _ (Or.inr FB)).mono ?_; rintro e w4 ⟨rfl, R4, T4⟩
            have G4 : Fresh w4 G := FieldIn.other GB T4 (fun h => hFG.out h.symm)
            have P4 : Past w w4 := PB.turned T4 hF.out
            clear T4
            go_wp2_with fail
            refine (made_any F 1 0 1 255 _ R4).mono ?_; rintro e w' ⟨rfl, rfl⟩
            go_wp2
            go_roundw
            case rel => exact ⟨j + 1, by omega, by go_num, fun h => absurd h (by omega), fun _ => R4, G4, P4⟩
            case measure => simp [intOf] <;> omega
      · obtain rfl : j = 40 := by omega
        have GB := hB.other
        have PB := hB.past
        clear hB
        go_wp2_with fail
        refine (made_any G 0 0 0 0 _ GB).mono ?_; rintro e w' ⟨rfl, rfl⟩
        go_wp2
        go_ret
        exact ⟨rfl, PB⟩

set_option maxRecDepth 100000 in
set_option maxHeartbeats 4000000 in
theorem once_empty (a : Option Addr) (cap x y : Nat) (w : World) :
    Calls Try.prog 5 #[.slice a 0 cap, .int .u8 x, .int .u8 y] w fun e w' => e = .returned (.bool true) ∧ Past w w' := by
  go_enter Try.func5, Try.ntmps5
  go_wp2_with fail
  refine (wakes_any w).mono ?_; rintro e w1 ⟨rfl, R1, P1⟩
  go_wp2_with fail
  refine (new_any w1).mono ?_; rintro e w2 ⟨rfl, hw2⟩
  have F1 : Fresh w2 w1.heap.size := by rw [hw2]; exact new_field w1 _
  have P2 : Past w w2 := by rw [hw2]; exact P1.alloc _ _
  have hFG : Hid (w1.heap.size ≠ w2.heap.size) := by show w1.heap.size ≠ w2.heap.size; rw [hw2]; simp
  have hF : Hid (w.heap.size ≤ w1.heap.size) := P1.size
  clear hw2 R1 P1
  generalize w1.heap.size = F at *
  go_wp2_with fail
  refine (new_any w2).mono ?_; rintro e w3 ⟨rfl, hw3⟩
  have F2 : Fresh w3 F := FieldIn.ext F1 (by rw [hw3]; exact (Ext.refl _).alloc _ _)
  have G2 : Fresh w3 w2.heap.size := by rw [hw3]; exact new_field w2 _
  have P3 : Past w w3 := by rw [hw3]; exact P2.alloc _ _
  clear hw3 F1 P2
  generalize w2.heap.size = G at *
  rcases a with _ | a
  · go_wp2_with fail
    go_loopw [25] (fun i wr => i = .int .i64 0 ∧ Fresh wr G ∧ Past w wr) (fun _ _ => 0)
    case atStart => exact ⟨rfl, G2, P3⟩
    case round =>
      obtain ⟨rfl, GB, PB⟩ := hrel
      go_wp2_with fail
      refine (made_any G 0 0 0 0 _ GB).mono ?_; rintro e w' ⟨rfl, rfl⟩
      go_wp2
      go_ret
      exact ⟨rfl, PB⟩
  · go_wp2_with fail
    go_loopw [25] (fun i wr => i = .int .i64 0 ∧ Fresh wr G ∧ Past w wr) (fun _ _ => 0)
    case atStart => exact ⟨rfl, G2, P3⟩
    case round =>
      obtain ⟨rfl, GB, PB⟩ := hrel
      go_wp2_with fail
      refine (made_any G 0 0 0 0 _ GB).mono ?_; rintro e w' ⟨rfl, rfl⟩
      go_wp2
      go_ret
      exact ⟨rfl, PB⟩

end Go.Proofs.Ytpibjendlaepgaa
