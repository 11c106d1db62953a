/-
  Contract of the laws' sector. No condition.
-/
import Derived.Test.YtncdidklgpmefaaDoorTuTail
import Derived.Laws.BytesArg
namespace Go.Proofs.YtncdidklgpmefaaDoor
open Go.RowKit Plain
set_option linter.unusedVariables false

theorem info_u8 : (Tryd.prog.info? 5).map (fun i => (i.zero, i.size, i.bytes)) = some (some (.int .u8 0), 1, 1) := by kernel_rfl
/-- the bytes of an act. -/
def scS (x : Nat) (odd : Bool) : ByteArray := bs 1 (fun _ => x) ++ bs (if odd then 62 else 63) (fun _ => 0)
theorem scS_size (x : Nat) : (scS x false).size = 64 := by
  unfold scS
  rw [ByteArray.size_append, bs_size, bs_size]
  rfl
theorem scS_odd (x : Nat) : (scS x true).size = 63 := by
  unfold scS
  rw [ByteArray.size_append, bs_size, bs_size]
  rfl
theorem conv_of (W : World) (g n : Nat) (f : Nat → Nat) (h : ∀ i, i < n → W.cell? ⟨g, i, none⟩ = some (.int .u8 ((f i : Nat) : Int))) : (convert 81 9 (.slice (some ⟨g, 0, none⟩) n n)).run Tryd.prog W = .ok (.string (bs n f)) W := by
  refine run_convert_bytes_arg (P := Tryd.prog) W 81 5 Tryd.underlying81 Tryd.underlying5 g 0 n n ((List.range n).map fun i => ((f i : Nat) : Int)) (by simp) (fun i hi => ?_) 9 Tryd.underlying9
  rw [Nat.zero_add, h i (by simpa using hi)]
  simp only [List.getD_eq_getElem?_getD, List.getElem?_map]
  rw [List.getElem?_range (by simpa using hi)]
  rfl
set_option maxRecDepth 100000 in
theorem sector_any (x : Nat) (hx : x < 256) (odd : Bool) (w : World) : Calls Tryd.prog 14 #[.int .u8 (x : Int), .bool odd] w fun e w' => e = .returned (.string (scS x odd)) ∧ Kp w w' := by
  obtain ⟨n, hn⟩ : ∃ n, n = (if odd then 62 else 63) := ⟨_, rfl⟩
  unfold scS
  rw [← hn]
  have hn2 : n ≤ 63 := by rw [hn]; split <;> omega
  have HN := hid hn
  obtain ⟨X, hX⟩ : ∃ X, X = Obj.cells #[.int .u8 (x : Int)] 5 := ⟨_, rfl⟩
  obtain ⟨Z, hZ⟩ : ∃ Z, Z = Obj.cells (madeCells #[.int .u8 0] n) 5 := ⟨_, rfl⟩
  have cX : ∀ (W W' : World) (g : Nat), g = W.heap.size → Kp (W.alloc X) W' → (convert 81 9 (.slice (some ⟨g, 0, none⟩) 1 1)).run Tryd.prog W' = .ok (.string (bs 1 (fun _ => x))) W' := fun W W' g hg k => by
    refine conv_of W' g 1 _ (fun i hi => k.held ?_)
    obtain rfl : i = 0 := by omega
    rw [hX, World.cell?_alloc_at _ _ _ _ hg]; rfl
  have cZ : ∀ (W W' : World) (g : Nat), g = W.heap.size → Kp (W.alloc Z) W' → (convert 81 9 (.slice (some ⟨g, 0, none⟩) n n)).run Tryd.prog W' = .ok (.string (bs n (fun _ => 0))) W' := fun W W' g hg k => by
    refine conv_of W' g n _ (fun i hi => k.held ?_)
    rw [hZ, World.cell?_alloc_at _ _ _ _ hg]; simp [madeCells, hi, Nat.mod_one]
  have c1 := cX w (w.alloc X).drew w.heap.size rfl (Kp.refl _).drew
  have c2 := cX w ((w.alloc X).alloc Z).drew w.heap.size rfl ((Kp.refl _).alloc _).drew
  have c3 := cX (w.alloc Z) ((w.alloc Z).alloc X).drew (w.heap.size + 1) (by simp) (Kp.refl _).drew
  have d1 := cZ w (w.alloc Z).drew w.heap.size rfl (Kp.refl _).drew
  have d2 := cZ w ((w.alloc Z).alloc X).drew w.heap.size rfl ((Kp.refl _).alloc _).drew
  have d3 := cZ (w.alloc X) ((w.alloc X).alloc Z).drew (w.heap.size + 1) (by simp) (Kp.refl _).drew
  have hmk := fun W => run_make_row' (P := Tryd.prog) 81 5 (.int .u8 0) 1 Tryd.underlying81 info_u8 rfl .i64 .i64 n (by omega) (by omega) W
  rw [hX, hZ] at c2 c3 d2 d3
  rw [hX] at c1
  rw [hZ] at d1
  have K1 : Kp w ((w.alloc X).alloc Z).drew := (((Kp.refl w).alloc _).alloc _).drew
  have K2 : Kp w ((w.alloc Z).alloc X).drew := (((Kp.refl w).alloc _).alloc _).drew
  rw [hX, hZ] at K1 K2
  obtain ⟨A, hA⟩ : ∃ A, A = bs 1 (fun _ => x) := ⟨_, rfl⟩
  obtain ⟨B, hB⟩ : ∃ B, B = bs n (fun _ => 0) := ⟨_, rfl⟩
  rw [← hA] at c1 c2 c3 ⊢
  rw [← hB] at d1 d2 d3 ⊢
  have hAB : ¬ 9223372036854775807 < A.size + B.size := by rw [hA, hB, bs_size, bs_size]; omega
  clear cX cZ hX hZ hA hB hn
  cases odd with
  | true =>
    have hn : n = 62 := by rw [HN.out]; rfl
    subst hn
    have hmk2 : ∀ W : World, (Instr.makeSlice 81 (.int .i64 62) (.int .i64 62)).run Tryd.prog W = .ok (.slice (some ⟨W.heap.size, 0, none⟩) 62 62) (W.alloc (.cells (madeCells #[.int .u8 0] 62) 5)) := hmk
    go_enter Tryd.func14, Tryd.ntmps14
    go_wp2_with fail
    go_region
    all_goals (go_wp2; go_ret; first | exact ⟨rfl, K1⟩ | exact ⟨rfl, K2⟩)
  | false =>
    have hn : n = 63 := by rw [HN.out]; rfl
    subst hn
    have hmk2 : ∀ W : World, (Instr.makeSlice 81 (.int .i64 63) (.int .i64 63)).run Tryd.prog W = .ok (.slice (some ⟨W.heap.size, 0, none⟩) 63 63) (W.alloc (.cells (madeCells #[.int .u8 0] 63) 5)) := hmk
    go_enter Tryd.func14, Tryd.ntmps14
    go_wp2_with fail
    go_region
    all_goals (go_wp2; go_ret; first | exact ⟨rfl, K1⟩ | exact ⟨rfl, K2⟩)


end Go.Proofs.YtncdidklgpmefaaDoor
