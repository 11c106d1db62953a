/-
  Contracts of Product, power and of the making of the tables (fill), and of a call that makes them once (Do): behind it the field's tables are the powers of 2 and the logarithms, and the count is 1. Conditions: that the field's cells hold what they are said to hold.
-/
import Derived.Test.YtbcmgogfpboibaaGreatDoorField
namespace Go.Proofs.YtbcmgogfpboibaaGreatDoor
open Go.RowKit Plain

theorem u64_byte (a : Nat) (h : a < 256) : IntKind.u64.wrap (a : Int) = (a : Int) := by rw [IntKind.wrap_u64]; omega
set_option maxHeartbeats 1000000 in
theorem product_any (a c : Nat) (ha : a < 256) (hc : c < 256) (w : World) :
    Calls Tryz.prog 103 #[.int .u8 a, .int .u8 c] w fun e w' => e = .returned (.int .u8 (ml a c : Nat)) ∧ w' = w := by
  go_enter Tryz.func103, Tryz.ntmps103
  go_wp2_with fail
  refine (times_any a c (by omega) hc w).mono ?_; rintro e w' ⟨rfl, rfl⟩
  go_wp2
  go_ret
  refine ⟨ret_int ?_, rfl⟩
  rw [tm_ml a c ha]
  have := ml_lt a c ha
  omega

theorem ix_tmod (n : Int) : (ix n : Int) = if n.tmod 255 < 0 then n.tmod 255 + 255 else n.tmod 255 := by
  have h := Int.tmod_eq_emod (a := n) (b := 255)
  unfold ix
  split at h <;> split <;> omega
set_option maxHeartbeats 1000000 in
theorem fpow_any (b : Nat) (d s m : Int) (n : Int) (w : World) (hF : FieldIn w b d s m 255) :
    Calls Tryz.prog 92 #[.pointer (some ⟨b, 0, none⟩), .int .i64 n] w fun e w' => e = .returned (.int .u8 (exN n : Nat)) ∧ w' = w := by
  have hx := ix_tmod n
  have hl := ix_lt n
  have hc := hF.cp (ix n) hl
  have hp : pwT 255 (ix n) = exN n := by unfold pwT exN; rw [if_pos hl]
  rw [hp] at hc
  clear hp hF
  generalize ix n = k at *
  obtain ⟨t, ht⟩ : ∃ t, n.tmod 255 = t := ⟨_, rfl⟩
  rw [ht] at hx
  by_cases h0 : t < 0
  · rw [if_pos h0] at hx
    have e : t = (k : Int) - 255 := by omega
    subst e
    clear hx
    go_enter Tryz.func92, Tryz.ntmps92
    go_wp2
    go_ret
    exact ⟨rfl, rfl⟩
  · rw [if_neg h0] at hx
    subst hx
    go_enter Tryz.func92, Tryz.ntmps92
    go_wp2
    go_ret
    exact ⟨rfl, rfl⟩

set_option maxRecDepth 100000 in
set_option maxHeartbeats 2000000 in
theorem fill_any (b : Nat) (d s m : Int) (hm : 0 ≤ m ∧ m < 1000) (w : World) (hF : FieldIn w b d s m 0) :
    Calls Tryz.prog 91 #[.pointer (some ⟨b, 0, none⟩)] w fun e w' => e = .returned (.tuple #[]) ∧ FieldIn w' b d s (m + 1) 255 ∧ Turned b w w' := by
  go_enter Tryz.func91, Tryz.ntmps91
  go_wp2
  go_loopw [2, 4] (fun X i wr => ∃ k : Nat, k ≤ 255 ∧ i = .int .i64 k ∧ X = .int .u8 (pw k : Nat) ∧ FieldIn wr b d s m k ∧ Turned b w wr) (fun _ i _ => 255 - (intOf i).toNat)
  case atStart => exact ⟨0, by omega, rfl, rfl, hF, Turned.refl b w⟩
  case round =>
    obtain ⟨k, hk, rfl, rfl, hK, hT⟩ := hrel
    by_cases hlt : k < 255
    · have hst := fun X hX => hK.step hlt X hX
      have hz := hK.fz
      have hpl := (pw_pos k).2
      have hcp := hK.cp k hlt
      have hcl := hK.cl (pw k) hpl
      have HN : Hid (ml (pw k) 2 = pw (k + 1)) := by show ml (pw k) 2 = _; rw [ml_two _ hpl]; rfl
      obtain ⟨X, hX⟩ : ∃ X, pw k = X := ⟨_, rfl⟩
      have hs := hst X hX
      have HS : Hid (FieldIn ((wr.setCell ⟨b, 4 + k, none⟩ (.int .u8 (X : Nat))).setCell ⟨b, 259 + X, none⟩ (.int .u8 (k : Nat))) b d s m (k + 1)) := hs
      have HX : Hid (pw k = X) := hX
      have HT : Hid (Turned b w wr) := hT
      rw [hX] at hpl hcl
      have hcl2 := cell_off wr b (4 + k) (259 + X) (.int .u8 (X : Nat)) (by omega)
      rw [hcl] at hcl2
      rw [hX]
      clear hst hs hX hK hT
      go_wp2_with fail
      refine (product_any X 2 hpl (by omega) _).mono ?_; rintro e w' ⟨rfl, rfl⟩
      go_wp2
      go_roundw
      case rel =>
        refine ⟨k + 1, by omega, by go_num, ?_, HS.out, (HT.out.setCell _ _).setCell _ _⟩
        rw [← HX.out, HN.out]
      case measure => simp [intOf]; omega
    · obtain rfl : k = 255 := by omega
      have c3 := hK.c3
      have z3 := hK.fz 3
      have HS : Hid (FieldIn (wr.setCell ⟨b, 3, none⟩ (.int .i64 (m + 1))) b d s (m + 1) 255) := hK.set3 (m + 1)
      have HT : Hid (Turned b w wr) := hT
      clear hK hT
      go_wp2_with (go_at_call 44; refine (count_add ⟨b, 3, none⟩ m 1 (by omega) (by omega) (by omega) (by omega) _ c3 z3).mono ?_; rintro e w' ⟨rfl, rfl⟩)
      go_end0
      exact ⟨rfl, HS.out, HT.out.setCell _ _⟩

end Go.Proofs.YtbcmgogfpboibaaGreatDoor
