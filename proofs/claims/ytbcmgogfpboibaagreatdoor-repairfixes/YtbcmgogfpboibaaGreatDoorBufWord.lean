/-
  Contracts of the words that bulk reads (the closures of Add, Scale, Fold, Double): each gives the word at its place. Conditions: that the captured cells hold the arguments.
-/
import Derived.Test.YtbcmgogfpboibaaGreatDoorBufCls
import Derived.Deep.QuietTactic
import Derived.BigQuiet
import Derived.Deep.RegionWith
namespace Go.Proofs.YtbcmgogfpboibaaGreatDoor
open Go.RowKit Plain Go.BigFrame

theorem addW_take (l : List ByteArray) (k p : Nat) (h : k < l.length) : addW (l.take (k + 1)) p = addW (l.take k) p ^^^ ldS (l.getD k noS) p 8 := by
  unfold addW
  rw [List.take_add_one, List.foldl_append, List.getElem?_eq_getElem h, List.getD_eq_getElem?_getD, List.getElem?_eq_getElem h]
  rfl
set_option maxHeartbeats 2000000 in
theorem addw_some (c b off cap : Nat) (l : List ByteArray) (h1 : l.length ≤ cap) (h2 : cap ≤ maxLen) (hs : ∀ i, i < l.length → (l.getD i noS).size ≤ maxLen) (w : World) (hv : w.cell? ⟨c, 0, none⟩ = some (.slice (some ⟨b, off, none⟩) l.length cap)) (hc : ∀ i, i < l.length → w.cell? ⟨b, off + i, none⟩ = some (.string (l.getD i noS))) (p : Nat) (hp : p < 9223372036854775807) :
    Calls Tryz.prog 57 #[.int .i64 p, .pointer (some ⟨c, 0, none⟩)] w fun e w' => e = .returned (.int .u64 (addW l p : Nat)) ∧ w' = w := by
  unfold maxLen at h2
  go_enter Tryz.func57, Tryz.ntmps57
  go_wp2
  go_loop [4, 9] (fun X i => ∃ k : Nat, k ≤ l.length ∧ i = .int .i64 k ∧ X = .int .u64 (addW (l.take k) p : Nat)) (fun _ i => l.length - (intOf i).toNat)
  case atStart => exact ⟨0, by omega, rfl, rfl⟩
  case round =>
    obtain ⟨k, hk, rfl, rfl⟩ := hrel
    by_cases hlt : k < l.length
    · have hck := hc k hlt
      have hsk := hs k hlt
      have HS : Hid (addW (l.take (k + 1)) p = addW (l.take k) p ^^^ ldS (l.getD k noS) p 8) := addW_take l k p hlt
      obtain ⟨X, hX⟩ : ∃ X, X = addW (l.take k) p := ⟨_, rfl⟩
      obtain ⟨s, hse⟩ : ∃ s, s = l.getD k noS := ⟨_, rfl⟩
      have hXl : X < 18446744073709551616 := by rw [hX]; exact addW_lt _ _
      rw [← hX, ← hse] at HS
      rw [← hse] at hck hsk
      rw [← hX]
      clear hc hs hX hse
      have hxor := u64_xor_nat X (ldS s p 8) hXl (ldS_lt64 s p 8 (by omega))
      go_wp2_with fail
      refine (load_any s p hsk (by omega) (by omega) _).mono ?_; rintro e w' ⟨rfl, rfl⟩
      go_wp2
      go_round
      case rel => exact ⟨k + 1, by omega, by go_num, by rw [HS.out]⟩
      case measure => simp [intOf]; omega
    · obtain rfl : k = l.length := by omega
      rw [List.take_length]
      go_wp2
      go_ret
      exact ⟨rfl, rfl⟩

set_option maxRecDepth 100000 in
set_option maxHeartbeats 2000000 in
theorem scalew_any (bs bc : Nat) (s : ByteArray) (hs : s.size ≤ maxLen) (c : Nat) (hc : c < 256) (w : World) (k1 : w.cell? ⟨bs, 0, none⟩ = some (.string s)) (k2 : w.cell? ⟨bc, 0, none⟩ = some (.int .u8 c)) (p : Nat) (hp : p < 9223372036854775807) :
    Calls Tryz.prog 93 #[.int .i64 p, .pointer (some ⟨bs, 0, none⟩), .pointer (some ⟨bc, 0, none⟩)] w fun e w' => e = .returned (.int .u64 (scaleW c s p : Nat)) ∧ Kp w w' := by
  have q1 := kpw_cell k1
  have q2 := kpw_cell k2
  have hl := ldS_lt64 s p 8 (by omega)
  go_enter Tryz.func93, Tryz.ntmps93
  go_wp2_with fail
  refine wp_region_kp (by kernel_rfl) (by kernel_rfl) ?_
  repeat (first
    | go_big_quiet_skip
    | (go_big_quiet_want; go_big_quiet_op; go_big_quiet_on)
    | (go_big_quiet_want; go_big_quiet_op; apply Exists.intro; refine ⟨fun p => ?_, ?_⟩; (focus
        first
        | (go_at_call 58; exact kp_same (load_any s _ hs (by omega) (by omega) _))
        | (go_at_call 75; exact kp_same (times_any _ _ hl hc _))); go_big_quiet_on))
  refine wpQuiet_nil ?_
  rintro w' ⟨p, rfl⟩
  go_wp2
  go_ret
  exact ⟨rfl, kpw_kp w p⟩

set_option maxRecDepth 100000 in
set_option maxHeartbeats 2000000 in
theorem foldw_any (ba bs bc : Nat) (a s : ByteArray) (ha : a.size ≤ maxLen) (hs : s.size ≤ maxLen) (c : Nat) (hc : c < 256) (w : World) (k0 : w.cell? ⟨ba, 0, none⟩ = some (.string a)) (k1 : w.cell? ⟨bs, 0, none⟩ = some (.string s)) (k2 : w.cell? ⟨bc, 0, none⟩ = some (.int .u8 c)) (p : Nat) (hp : p < 9223372036854775807) :
    Calls Tryz.prog 74 #[.int .i64 p, .pointer (some ⟨ba, 0, none⟩), .pointer (some ⟨bs, 0, none⟩), .pointer (some ⟨bc, 0, none⟩)] w fun e w' => e = .returned (.int .u64 (foldW a c s p : Nat)) ∧ Kp w w' := by
  have q0 := kpw_cell k0
  have q1 := kpw_cell k1
  have q2 := kpw_cell k2
  have hl := ldS_lt64 s p 8 (by omega)
  have hx := u64_xor_nat (ldS a p 8) (tmN (ldS s p 8) c) (ldS_lt64 a p 8 (by omega)) (tm_lt _ _ hl)
  go_enter Tryz.func74, Tryz.ntmps74
  go_wp2_with fail
  refine wp_region_kp (by kernel_rfl) (by kernel_rfl) ?_
  repeat (first
    | go_big_quiet_skip
    | (go_big_quiet_want; go_big_quiet_op; go_big_quiet_on)
    | (go_big_quiet_want; go_big_quiet_op; apply Exists.intro; refine ⟨fun p => ?_, ?_⟩; (focus
        first
        | (go_at_call 58; exact kp_same (load_any _ _ (by assumption) (by omega) (by omega) _))
        | (go_at_call 75; exact kp_same (times_any _ _ hl hc _))); go_big_quiet_on))
  refine wpQuiet_nil ?_
  rintro w' ⟨p, rfl⟩
  go_wp2
  go_ret
  exact ⟨rfl, kpw_kp w p⟩

set_option maxRecDepth 100000 in
set_option maxHeartbeats 2000000 in
theorem doublew_any (ba bs : Nat) (a s : ByteArray) (ha : a.size ≤ maxLen) (hs : s.size ≤ maxLen) (w : World) (k0 : w.cell? ⟨ba, 0, none⟩ = some (.string a)) (k1 : w.cell? ⟨bs, 0, none⟩ = some (.string s)) (p : Nat) (hp : p < 9223372036854775807) :
    Calls Tryz.prog 77 #[.int .i64 p, .pointer (some ⟨ba, 0, none⟩), .pointer (some ⟨bs, 0, none⟩)] w fun e w' => e = .returned (.int .u64 (doubleW a s p : Nat)) ∧ Kp w w' := by
  have q0 := kpw_cell k0
  have q1 := kpw_cell k1
  have hl := ldS_lt64 a p 8 (by omega)
  have hx := u64_xor_nat (twN (ldS a p 8)) (ldS s p 8) (tw_lt _) (ldS_lt64 s p 8 (by omega))
  go_enter Tryz.func77, Tryz.ntmps77
  go_wp2_with fail
  refine wp_region_kp (by kernel_rfl) (by kernel_rfl) ?_
  repeat (first
    | go_big_quiet_skip
    | (go_big_quiet_want; go_big_quiet_op; go_big_quiet_on)
    | (go_big_quiet_want; go_big_quiet_op; apply Exists.intro; refine ⟨fun p => ?_, ?_⟩; (focus
        first
        | (go_at_call 58; exact kp_same (load_any _ _ (by assumption) (by omega) (by omega) _))
        | (go_at_call 78; exact kp_same (twice_any _ hl _))); go_big_quiet_on))
  refine wpQuiet_nil ?_
  rintro w' ⟨p, rfl⟩
  go_wp2
  go_ret
  exact ⟨rfl, kpw_kp w p⟩

end Go.Proofs.YtbcmgogfpboibaaGreatDoor
