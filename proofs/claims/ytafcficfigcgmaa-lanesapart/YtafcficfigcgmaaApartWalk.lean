/-
  Contract of the law function LanesApart: for every two words and two bytes it returns true and lays new blocks alone. No condition.
-/
import Derived.Test.YtafcficfigcgmaaStrs
import Derived.Test.YtafcficfigcgmaaExt
import Derived.Test.YtafcficfigcgmaaLanePlain
import Derived.Deep.RegionWith
namespace Go.Proofs.Ytafcficfigcgmaa
open Go.RowKit Plain Go.BigFrame
theorem alone_int {a b m : Nat} (ha : a < 18446744073709551616) (hb : b < 18446744073709551616) (hm : m < 18446744073709551616) (h : a &&& m = b &&& m) : bits .and .u64 (a : Int) (m : Int) = bits .and .u64 (b : Int) (m : Int) := by
  rw [u64_and_nat a m ha hm, u64_and_nat b m hb hm, h]
set_option maxHeartbeats 1000000 in
theorem walkA (x y z k c : Nat) (hx : x < 18446744073709551616) (hy : y < 18446744073709551616) (hc : c < 256) (hk : k < 8) (r0 : bits .and .u8 (z : Int) 7 = (k : Int)) (w : World) :
    Calls Try.prog 8 #[.int .u64 x, .int .u64 y, .agg #[.int .u8 z, .int .u8 c]] w fun e w' => e = .returned (.bool true) ∧ Grown w w' := by
  have hm := msk_lt k hk
  have rm : IntKind.u64.wrap (255 * 2 ^ (k * 8)) = (msk k : Int) := by
    have e : (255 : Int) * 2 ^ (k * 8) = ((msk k : Nat) : Int) := by unfold msk; rw [Int.natCast_mul, Int.natCast_pow]; rfl
    rw [e, IntKind.wrap_u64]; omega
  have ra : bits .and .u64 (x : Int) (msk k : Int) = ((x &&& msk k : Nat) : Int) := u64_and_nat x _ hx hm
  have rb : bits .andNot .u64 (y : Int) (msk k : Int) = ((y &&& (18446744073709551615 - msk k) : Nat) : Int) := u64_andNot_nat y _ hy hm
  have rc : bits .or .u64 ((x &&& msk k : Nat) : Int) ((y &&& (18446744073709551615 - msk k) : Nat) : Int) = ((mix x y k : Nat) : Int) :=
    u64_or_nat _ _ (Nat.lt_of_le_of_lt Nat.and_le_left hx) (Nat.lt_of_le_of_lt Nat.and_le_left hy)
  have hmx := mix_lt x y k hx
  have r1 := alone_int (tm_lt _ c hmx) (tm_lt x c hx) hm (tm_alone x y k c hx hk)
  have r2 := alone_int (tw_lt _) (tw_lt x) hm (tw_alone x y k hk)
  have r3 := alone_int (hi_lt _) (hi_lt x) hm (hi_alone x y k hk)
  have r4 := alone_int (hf_lt _) (hf_lt x) hm (hf_alone x y k hk)
  go_enter Try.func8, Try.ntmps8
  go_wp2_with fail
  have k1 : ∀ p, (extp (w.alloc (.cells #[.int .u8 z, .int .u8 c] 36)) p).cell? ⟨w.heap.size, 1, none⟩ = some (.int .u8 c) := fun p => by
    rw [Ext.cell (extp_ext _ p) (by simp)]; simp
  rw [rm]
  clear r0 rm ra rb rc
  refine wp_region_ext (by kernel_rfl) (by kernel_rfl) ?_
  repeat (first
    | go_big_quiet_skip
    | (go_big_quiet_want; go_big_quiet_op; go_big_quiet_on)
    | (go_big_quiet_want; go_big_quiet_op; apply Exists.intro; refine ⟨fun p => ?_, ?_⟩; (focus
        first
        | (go_at_call 9; exact ext_call ((wakes_any _).mono fun e w' h => ⟨h.1, by rw [h.2]; exact (Ext.refl _).alloc _ _⟩))
        | (go_at_call_of 16 (Value.int IntKind.u64 (x : Int)); exact ext_call_same (high_any _ hx _))
        | (go_at_call 16; exact ext_call_same (high_any _ hmx _))
        | (go_at_call_of 18 (Value.int IntKind.u64 (x : Int)); exact ext_call_same (twice_any _ hx _))
        | (go_at_call 18; exact ext_call_same (twice_any _ hmx _))
        | (go_at_call_of 20 (Value.int IntKind.u64 (x : Int)); exact ext_call_same (half_any _ hx _))
        | (go_at_call 20; exact ext_call_same (half_any _ hmx _))
        | (go_at_call_of 21 (Value.int IntKind.u64 (x : Int)); exact ext_call_same (times_any _ _ hx hc _))
        | (go_at_call 21; exact ext_call_same (times_any _ _ hmx hc _))); go_big_quiet_on))
  refine wpQuiet_nil ?_
  rintro w' ⟨p, rfl⟩
  go_wp2
  go_ret
  exact ⟨rfl, ((Ext.refl _).alloc _ _ |>.trans (extp_ext _ p)).grown⟩

end Go.Proofs.Ytafcficfigcgmaa
