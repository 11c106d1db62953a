/-
  A contract of New. No condition.
-/
import Derived.Test.YtmklkdopmemfaaaMmCopy
import Derived.Laws.OwnMore
namespace Go.Proofs.Ytmklkdopmemfaaa
open Go.RowKit Plain
set_option linter.unusedVariables false

theorem imin {P : Program} (ts : Array TypeId) (t : TypeId) (x y : Int) (w : World) : (Builtin.min_ ts t #[.int .i64 x, .int .i64 y]).run P w = .ok (.int .i64 (min x y)) w := by
  rw [run_min_int2]
  congr 2
  split <;> omega
theorem imax {P : Program} (ts : Array TypeId) (t : TypeId) (x y : Int) (w : World) : (Builtin.max_ ts t #[.int .i64 x, .int .i64 y]).run P w = .ok (.int .i64 (max x y)) w := by
  rw [run_max_int2]
  congr 2
  split <;> omega
def z0 : Value := .int .u8 0
theorem bc_zero : byteCells z64 = List.replicate 64 z0 := by kernel_rfl
theorem scs_zero : ∀ n, scs (List.replicate n z64) = List.replicate (n * 64) z0
  | 0 => rfl
  | n + 1 => by
    rw [List.replicate_succ]
    simp only [scs, scs_zero n, bc_zero]
    rw [List.replicate_append_replicate, show 64 + n * 64 = (n + 1) * 64 by omega]
theorem made_rep (m n : Nat) (hm : 0 < m) (z : Value) : madeCells (List.replicate m z).toArray n = (List.replicate n z).toArray := by
  apply Array.ext_getElem?
  intro j
  unfold madeCells
  have h64 : j % m < m := Nat.mod_lt _ hm
  by_cases hj : j < n
  · simp [hj, h64]
  · simp [hj]
theorem made_zero (n : Nat) : madeCells (List.replicate 64 z0).toArray (n * 64) = (scs (List.replicate n z64)).toArray := by
  rw [scs_zero]
  exact made_rep 64 (n * 64) (by omega) z0
theorem info64 : (Try.prog.info? 104).map (fun i => (i.zero, i.size, i.bytes)) = some (some (.agg (List.replicate 64 z0).toArray), 64, 64) := by kernel_rfl
theorem run_make64 (n : Nat) (hn : n ≤ 256) (w : World) : (Instr.makeSlice 98 (.int .i64 (n : Int)) (.int .i64 (n : Int))).run Try.prog w = .ok (.slice (some ⟨w.heap.size, 0, none⟩) n n) (w.alloc (.cells (scs (List.replicate n z64)).toArray 104)) := by
  obtain ⟨i, hi, hzz⟩ := Option.map_eq_some_iff.1 info64
  simp only [Prod.mk.injEq] at hzz
  obtain ⟨hz, hs, hb⟩ := hzz
  have hr := run_make (P := Try.prog) w 98 104 i _ Try.underlying98 hi hz .i64 .i64 n n (by omega) (Int.le_refl _) (by rw [hb]; omega) (by omega)
  simp only [Int.toNat_natCast, hs, Value.cells, made_zero] at hr
  exact hr
theorem SecIn.made (w : World) (n : Nat) (t : TypeId) : SecIn (w.alloc (.cells (scs (List.replicate n z64)).toArray t)) w.heap.size (List.replicate n z64) := by
  refine SecIn.of (fun j v hv => ?_) ?_ (rep_all n)
  · rw [World.cell?_alloc_at _ _ _ _ rfl, Nat.zero_add]
    simpa using hv
  · exact there_new w _ t _ (by rw [List.size_toArray, scs_len _ (rep_all n)])
def mc (x1 x2 N : Nat) : Array Value := #[.int .i64 0, .int .i64 0, .int .i64 0, .int .i64 0, .int .i32 0, .int .u32 0, .int .u32 0, .int .u32 0, .int .i32 0, .int .i32 0, .slice (some ⟨x1, 0, none⟩) N N, .slice (some ⟨x2, 0, none⟩) N N, .slice none 0 0, .bool false]
theorem MemIn.made (w : World) (N : Nat) (h1 : 1 ≤ N) (h2 : N ≤ 256) (Z : Array Value) (hZ : ∀ W : World, SecIn (W.alloc (.cells Z 104)) W.heap.size (List.replicate N z64)) (x1 x2 : Nat) (hx : (x1 = w.heap.size ∧ x2 = w.heap.size + 1) ∨ (x1 = w.heap.size + 1 ∧ x2 = w.heap.size)) :
    MemIn (((w.alloc (.cells Z 104)).alloc (.cells Z 104)).alloc (.cells (mc x1 x2 N) 101)).drew (w.heap.size + 1 + 1) x1 x2 (.slice none 0 0) (nw N) 0 0 := by
  obtain ⟨W, hW⟩ : ∃ W, W = (w.alloc (.cells Z 104)).alloc (.cells Z 104) := ⟨_, rfl⟩
  have hs : W.heap.size = w.heap.size + 1 + 1 := by rw [hW]; simp
  have s1 : SecIn W w.heap.size (List.replicate N z64) := by rw [hW]; exact (hZ w).sp (((Kp.refl _).alloc _).sp []) (by simp)
  have s2 : SecIn W (w.heap.size + 1) (List.replicate N z64) := by
    have := hZ (w.alloc (.cells Z 104))
    rw [← hW] at this
    simpa using this
  rw [← hW, ← hs]
  have hc : ∀ i, i < 14 → (W.alloc (.cells (mc x1 x2 N) 101)).drew.cell? ⟨W.heap.size, i, none⟩ = (mc x1 x2 N)[i]? := fun i _ => World.cell?_alloc_at _ _ _ i rfl
  have hk : Kp W (W.alloc (.cells (mc x1 x2 N) 101)).drew := ((Kp.refl W).alloc _).drew
  have hl : (nw N).las.length = N := by simp [nw]
  have sn : SecIn (W.alloc (.cells (mc x1 x2 N) 101)).drew x1 (List.replicate N z64) := by
    rcases hx with ⟨rfl, _⟩ | ⟨rfl, _⟩
    · exact s1.sp (hk.sp []) (by simp)
    · exact s2.sp (hk.sp []) (by simp)
  have sl : SecIn (W.alloc (.cells (mc x1 x2 N) 101)).drew x2 (List.replicate N z64) := by
    rcases hx with ⟨_, rfl⟩ | ⟨_, rfl⟩
    · exact s2.sp (hk.sp []) (by simp)
    · exact s1.sp (hk.sp []) (by simp)
  refine ⟨by show W.heap.size < (W.alloc _).heap.size; simp, fun j hj => ?_, hc 4 (by omega), hc 6 (by omega), hc 7 (by omega), hc 8 (by omega), by rw [hl]; exact hc 10 (by omega), by rw [hl]; exact hc 11 (by omega), hc 12 (by omega), hc 13 (by omega), fun o => World.frozen?_alloc_at _ _ _ o rfl, sn, sl, RowIn.nil _, by omega, by omega, by omega, fun g hg => (by cases hg), Fine.nw N h1 h2⟩
  rw [hc j (by omega)]
  have : j = 0 ∨ j = 1 ∨ j = 2 ∨ j = 3 := by omega
  rcases this with rfl | rfl | rfl | rfl <;> rfl
set_option maxRecDepth 100000 in
set_option maxHeartbeats 1000000 in
theorem new_any (k : Int) (w : World) : Calls Try.prog 26 #[.int .i64 k] w fun e w' => ∃ b bn bl, e = .returned (.pointer (some ⟨b, 0, none⟩)) ∧ MemIn w' b bn bl (.slice none 0 0) (nw (nwN k)) 0 0 ∧ Kp w w' ∧ w.heap.size ≤ b ∧ w.heap.size ≤ bn ∧ w.heap.size ≤ bl := by
  have hmin := @imin Try.prog
  have hmax := @imax Try.prog
  obtain ⟨N, hN⟩ : ∃ N, N = nwN k := ⟨_, rfl⟩
  have e1 : min (max k 1) 256 = (N : Int) := by rw [hN]; unfold nwN; omega
  have e2 : 1 ≤ N := by omega
  have e3 : N ≤ 256 := by omega
  rw [← hN]
  clear hN
  have hmk := run_make64 N e3
  obtain ⟨Z, hZ⟩ : ∃ Z, Z = (scs (List.replicate N z64)).toArray := ⟨_, rfl⟩
  rw [← hZ] at hmk
  have HZ : Hid (∀ W : World, SecIn (W.alloc (.cells Z 104)) W.heap.size (List.replicate N z64)) := fun W => by rw [hZ]; exact SecIn.made W N _
  clear hZ
  go_enter Try.func26, Try.ntmps26
  go_wp2_with fail
  go_region
  · have hM := MemIn.made w N e2 e3 Z HZ.out w.heap.size (w.heap.size + 1) (.inl ⟨rfl, rfl⟩)
    unfold mc at hM
    have hK := ((((Kp.refl w).alloc (.cells Z 104)).alloc (.cells Z 104)).alloc (.cells (mc w.heap.size (w.heap.size + 1) N) 101)).drew
    clear hmk e1
    go_wp2
    go_ret
    exact ⟨_, _, _, rfl, hM, hK, by omega, by omega, by omega⟩
  · have hM := MemIn.made w N e2 e3 Z HZ.out (w.heap.size + 1) w.heap.size (.inr ⟨rfl, rfl⟩)
    unfold mc at hM
    have hK := ((((Kp.refl w).alloc (.cells Z 104)).alloc (.cells Z 104)).alloc (.cells (mc (w.heap.size + 1) w.heap.size N) 101)).drew
    clear hmk e1
    go_wp2
    go_ret
    exact ⟨_, _, _, rfl, hM, hK, by omega, by omega, by omega⟩

end Go.Proofs.Ytmklkdopmemfaaa
