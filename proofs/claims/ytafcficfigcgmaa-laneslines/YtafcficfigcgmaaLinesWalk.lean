/-
  Contract of the law function LanesLines: for every two words and two bytes it returns true and lays new blocks alone. No condition.
-/
import Derived.Test.YtafcficfigcgmaaStrs
import Derived.Test.YtafcficfigcgmaaExt
import Derived.Deep.RegionWith
namespace Go.Proofs.Ytafcficfigcgmaa
open Go.RowKit Plain Go.BigFrame
theorem times_one (x : Nat) (hx : x < 18446744073709551616) (w : World) : Calls Try.prog 21 #[.int .u64 x, .int .u8 1] w fun e w' => e = .returned (.int .u64 x) ∧ w' = w := by
  have c := times_any x 1 hx (by omega) w
  rw [tm_one] at c; exact c
theorem times_zero (x : Nat) (hx : x < 18446744073709551616) (w : World) : Calls Try.prog 21 #[.int .u64 x, .int .u8 0] w fun e w' => e = .returned (.int .u64 0) ∧ w' = w := by
  have c := times_any x 0 hx (by omega) w
  rw [tm_zero] at c; exact c
set_option maxHeartbeats 1000000 in
theorem walkL (x y c d : Nat) (hx : x < 18446744073709551616) (hy : y < 18446744073709551616) (hc : c < 256) (hd : d < 256) (w : World) :
    Calls Try.prog 7 #[.int .u64 x, .int .u64 y, .agg #[.int .u8 c, .int .u8 d]] w fun e w' => e = .returned (.bool true) ∧ Grown w w' := by
  have r1 : bits .xor .u64 (x : Int) (y : Int) = ((x ^^^ y : Nat) : Int) := u64_xor_nat x y hx hy
  have r2 : bits .xor .u8 (c : Int) (d : Int) = ((c ^^^ d : Nat) : Int) := u8_xor_nat c d hc hd
  have b1 := xor64 x y hx hy
  have b2 := xor_lt c d hc hd
  have t1 := tm_lt x c hx
  have t2 := tm_lt x d hx
  have t3 := tm_lt y c hy
  have r3 : bits .xor .u64 (tmN x c : Int) (tmN y c : Int) = ((tmN (x ^^^ y) c : Nat) : Int) := by rw [u64_xor_nat _ _ t1 t3, tm_lin]
  have r4 : bits .xor .u64 (tmN x c : Int) (tmN x d : Int) = ((tmN x (c ^^^ d) : Nat) : Int) := by rw [u64_xor_nat _ _ t1 t2, tm_sum]
  have r5 : bits .xor .u64 (twN x : Int) (twN y : Int) = ((twN (x ^^^ y) : Nat) : Int) := by rw [u64_xor_nat _ _ (tw_lt x) (tw_lt y), tw_lin]
  have r6 : tmN (tmN x c) d = tmN (tmN x d) c := tm_comm x c d
  go_enter Try.func7, Try.ntmps7
  go_wp2_with fail
  dsimp only [List.append]
  have k0 : ∀ p, (extp (w.alloc (.cells #[.int .u8 c, .int .u8 d] 36)) p).cell? ⟨w.heap.size, 0, none⟩ = some (.int .u8 c) := fun p => by
    rw [Ext.cell (extp_ext _ p) (by simp)]; simp
  have k1 : ∀ p, (extp (w.alloc (.cells #[.int .u8 c, .int .u8 d] 36)) p).cell? ⟨w.heap.size, 1, none⟩ = some (.int .u8 d) := fun p => by
    rw [Ext.cell (extp_ext _ p) (by simp)]; simp
  refine wp_region_ext (by kernel_rfl) (by kernel_rfl) ?_
  repeat (first
    | go_big_quiet_skip
    | (go_big_quiet_want; go_big_quiet_op; go_big_quiet_on))
  go_big_quiet_want
  go_big_quiet_op
  refine ⟨_, fun p => ext_call ((wakes_any _).mono fun e w' h => ⟨h.1, by rw [h.2]; exact (Ext.refl _).alloc _ _⟩), ?_⟩
  go_big_quiet_on
  repeat (first
    | go_big_quiet_skip
    | (go_big_quiet_want; go_big_quiet_op; go_big_quiet_on)
    | (go_big_quiet_want; go_big_quiet_op; apply Exists.intro; refine ⟨fun p => ?_, ?_⟩; (focus
        first
        | (go_at_call_of 18 (Value.int IntKind.u64 (x : Int)); exact ext_call_same (twice_any _ hx _))
        | (go_at_call_of 18 (Value.int IntKind.u64 (y : Int)); exact ext_call_same (twice_any _ hy _))
        | (go_at_call 18; exact ext_call_same (twice_any _ b1 _))
        | (go_at_call_of 21 (Value.int IntKind.u8 1); exact ext_call_same (times_one _ hx _))
        | (go_at_call_of 21 (Value.int IntKind.u8 0); exact ext_call_same (times_zero _ hx _))
        | (go_at_call_of 21 (Value.int IntKind.u8 ((c ^^^ d : Nat) : Int)); exact ext_call_same (times_any _ _ hx b2 _))
        | (go_at_call_of 21 (Value.int IntKind.u8 (c : Int)); exact ext_call_same (times_any _ _ (by assumption) hc _))
        | (go_at_call_of 21 (Value.int IntKind.u8 (d : Int)); exact ext_call_same (times_any _ _ (by assumption) hd _))); go_big_quiet_on))
  refine wpQuiet_nil ?_
  rintro w' ⟨p, rfl⟩
  go_wp2
  go_ret
  exact ⟨rfl, ((Ext.refl _).alloc _ _ |>.trans (extp_ext _ p)).grown⟩

end Go.Proofs.Ytafcficfigcgmaa
