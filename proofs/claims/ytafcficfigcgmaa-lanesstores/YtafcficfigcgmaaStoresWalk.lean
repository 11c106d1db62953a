/-
  Contract of the law function LanesStores: for every word and byte it returns true and lays new blocks alone. No condition.
-/
import Derived.Test.YtafcficfigcgmaaRefHigh
import Derived.Deep.RegionWith
namespace Go.Proofs.Ytafcficfigcgmaa
open Go.RowKit Plain Go.BigFrame

theorem byI_is (x i : Nat) : byI x i = ((byN x i : Nat) : Int) := by
  unfold byI byN
  rw [Int.natCast_emod, Int.natCast_ediv, Int.natCast_pow, show (2 : Int) ^ (8 * i) = ((256 : Nat) : Int) ^ i by rw [Int.pow_mul]; rfl]
  rfl
theorem stL_is (x : Nat) (i : Nat) (h : i < 8) : (bvA (byN x))[i]? = some (.int .u8 ((stL x).getD i 0)) := by
  have h : i = 0 ∨ i = 1 ∨ i = 2 ∨ i = 3 ∨ i = 4 ∨ i = 5 ∨ i = 6 ∨ i = 7 := by omega
  rcases h with rfl | rfl | rfl | rfl | rfl | rfl | rfl | rfl <;> simp [stL, bvA, bvV, byI_is]
set_option maxRecDepth 100000 in
set_option maxHeartbeats 1000000 in
theorem walkS (x b : Nat) (hx : x < 18446744073709551616) (hb : b < 256) (w : World) :
    Calls Try.prog 4 #[.int .u64 x, .int .u8 b] w fun e w' => e = .returned (.bool true) ∧ Grown w w' := by
  go_enter Try.func4, Try.ntmps4
  go_wp2_with fail
  refine (bytes_lit x hx _).mono ?_; rintro e w' ⟨rfl, rfl⟩
  go_wp2_with fail
  rw [← bvA_lit (byN x)]
  obtain ⟨W0, hW0⟩ : ∃ W0, W0 = ((w.alloc (.cells (bvA (byN x)) 26)).alloc (.cells (bvA (byN x)) 26)).alloc (.cells (bvA (byN x)) 26) := ⟨_, rfl⟩
  have hcv : ∀ p, (convert 29 9 (.slice (some ⟨w.heap.size + 1 + 1, 0, none⟩) 8 8)).run Try.prog (extp W0 p) = .ok (.string (strOfNums (stL x))) (extp W0 p) := fun p =>
    run_convert_bytes_arg (P := Try.prog) (extp W0 p) 29 5 Try.underlying29 Try.underlying5 (w.heap.size + 1 + 1) 0 8 8 (stL x) rfl (fun i hi => by
      rw [Ext.cell (extp_ext _ p) (by rw [hW0]; simp), hW0, Nat.zero_add, World.cell?_alloc_at _ _ _ _ (by simp)]; exact stL_is x i hi) 9 Try.underlying9
  have HG : Hid (Grown w W0) := by
    rw [hW0]; exact ((((Ext.refl w).alloc _ _).alloc _ _).alloc _ _).grown
  have HE : Hid (Ext w W0) := by
    rw [hW0]; exact ((((Ext.refl w).alloc _ _).alloc _ _).alloc _ _)
  rw [← hW0]
  clear hW0
  refine wp_region_ext (by kernel_rfl) (by kernel_rfl) ?_
  repeat (first
    | go_big_quiet_skip
    | (go_big_quiet_want; go_big_quiet_op; go_big_quiet_on)
    | (go_big_quiet_want; go_big_quiet_op; apply Exists.intro; refine ⟨fun p => ?_, ?_⟩; (focus
        first
        | (go_at_call 9; exact ext_call ((wakes_any _).mono fun e w' h => ⟨h.1, by rw [h.2]; exact (Ext.refl _).alloc _ _⟩))
        | (go_at_call 13; exact ext_call ((store_any _ hx _).mono fun e w' h => ⟨h.1, by rw [h.2]; exact (Ext.refl _).alloc _ _⟩))
        | (go_at_call 14; exact ext_call_same (spread_any _ hb _))
        | (go_at_call 15; exact ext_call (word_same _ hb _))
        | (go_at_call 16; exact ext_call_same (high_any _ hx _))
        | (go_at_call 17; exact ext_call (refhigh_is _ hx _))); go_big_quiet_on))
  refine wpQuiet_nil ?_
  rintro w' ⟨p, rfl⟩
  go_wp2
  go_ret
  exact ⟨rfl, (HE.out.trans (extp_ext _ p)).grown⟩

end Go.Proofs.Ytafcficfigcgmaa
