/-
  The table in memory: what its 323 cells hold; what a store into it leaves; contracts of New and Made. Conditions: that the table's cells hold what they are said to hold.
-/
import Derived.Test.YtkkffgoeagnfnaaOnce
import Derived.Test.YtkkffgoeagnfnaaLanes
import Derived.Test.YtkkffgoeagnfnaaBufMem
import Derived.Test.YtkkffgoeagnfnaaCrcPlain
namespace Go.Proofs.Ytkkffgoeagnfnaa
open Go.RowKit Plain

/-- w' is w with draws, and stores into block b alone. -/
structure Trd (b : Nat) (w w' : World) : Prop where
  block : ∀ k, k ≠ b → w'.heap[k]? = w.heap[k]?
  size : w.heap.size = w'.heap.size
  kp : ∀ W, Kp W w → W.heap.size ≤ b → Kp W w'
theorem Trd.refl (b : Nat) (w : World) : Trd b w w := ⟨fun _ _ => rfl, rfl, fun _ h _ => h⟩
theorem Trd.trans {b : Nat} {w1 w2 w3 : World} (h : Trd b w1 w2) (k : Trd b w2 w3) : Trd b w1 w3 :=
  ⟨fun i hb => (k.block i hb).trans (h.block i hb), h.size.trans k.size, fun W hg hs => k.kp W (h.kp W hg hs) hs⟩
theorem Trd.setCell {b : Nat} {w1 w2 : World} (h : Trd b w1 w2) (o : Nat) (v : Value) : Trd b w1 (w2.setCell ⟨b, o, none⟩ v) :=
  h.trans ⟨fun k hb => Below.heap_setCell _ _ _ _ hb, by simp [World.setCell], fun _ hg hs => Below.setCell hg (p := ⟨b, o, none⟩) hs v⟩
theorem Trd.drew {b : Nat} {w1 w2 : World} (h : Trd b w1 w2) : Trd b w1 w2.drew :=
  h.trans ⟨fun _ _ => rfl, rfl, fun _ hg _ => hg.drew⟩

/-- the table at block b: done, the lock's state, the count, the bytes, the moves. -/
structure TabIn (w : World) (b : Nat) (d s m : Int) (B M : Nat → Nat) : Prop where
  hb : b < w.heap.size
  c0 : w.cell? ⟨b, 0, none⟩ = some (.int .u32 d)
  c1 : w.cell? ⟨b, 1, none⟩ = some (.int .i32 s)
  c3 : w.cell? ⟨b, 3, none⟩ = some (.int .i64 m)
  cb : ∀ i, i < 256 → w.cell? ⟨b, 4 + i, none⟩ = some (.int .u32 (B i : Nat))
  cm : ∀ i, i < 63 → w.cell? ⟨b, 260 + i, none⟩ = some (.int .u32 (M i : Nat))
  fz : ∀ o, w.frozen? ⟨b, o, none⟩ = false

theorem TabIn.of_block {w w' : World} {b : Nat} {d s m : Int} {B M : Nat → Nat} (h : TabIn w b d s m B M) (hk : w'.heap[b]? = w.heap[b]?) (hs : w.heap.size ≤ w'.heap.size) : TabIn w' b d s m B M := by
  have hc : ∀ o, w'.cell? ⟨b, o, none⟩ = w.cell? ⟨b, o, none⟩ := fun o => World.cell?_of_block (w := w) (a := ⟨b, o, none⟩) hk
  have hf : ∀ o, w'.frozen? ⟨b, o, none⟩ = w.frozen? ⟨b, o, none⟩ := fun o => World.frozen?_of_block (w := w) (a := ⟨b, o, none⟩) hk
  exact ⟨Nat.lt_of_lt_of_le h.hb hs, (hc 0).trans h.c0, (hc 1).trans h.c1, (hc 3).trans h.c3, fun i hi => (hc _).trans (h.cb i hi), fun i hi => (hc _).trans (h.cm i hi), fun o => (hf o).trans (h.fz o)⟩
theorem TabIn.other {w w' : World} {b c : Nat} {d s m : Int} {B M : Nat → Nat} (h : TabIn w b d s m B M) (k : Trd c w w') (hbc : b ≠ c) : TabIn w' b d s m B M :=
  h.of_block (k.block b hbc) (Nat.le_of_eq k.size)
theorem TabIn.kept {w w' : World} {b : Nat} {d s m : Int} {B M : Nat → Nat} (h : TabIn w b d s m B M) (k : Kp w w') : TabIn w' b d s m B M :=
  h.of_block (k.block b h.hb) k.size
theorem TabIn.drew {w : World} {b : Nat} {d s m : Int} {B M : Nat → Nat} (h : TabIn w b d s m B M) : TabIn w.drew b d s m B M := h.kept (Kp.refl w).drew
theorem TabIn.congr {w : World} {b : Nat} {d s m : Int} {B M B' M' : Nat → Nat} (h : TabIn w b d s m B M) (hB : ∀ i, i < 256 → B i = B' i) (hM : ∀ i, i < 63 → M i = M' i) : TabIn w b d s m B' M' :=
  ⟨h.hb, h.c0, h.c1, h.c3, fun i hi => by rw [← hB i hi]; exact h.cb i hi, fun i hi => by rw [← hM i hi]; exact h.cm i hi, h.fz⟩

theorem cell_off (w : World) (b o o' : Nat) (v : Value) (h : o' ≠ o) : (w.setCell ⟨b, o, none⟩ v).cell? ⟨b, o', none⟩ = w.cell? ⟨b, o', none⟩ :=
  World.cell?_setCell_other w ⟨b, o, none⟩ ⟨b, o', none⟩ v (fun hh => h (by have := congrArg Addr.off hh; simp at this; omega))
theorem TabIn.set0 {w : World} {b : Nat} {d s m : Int} {B M : Nat → Nat} (h : TabIn w b d s m B M) (d' : Int) : TabIn (w.setCell ⟨b, 0, none⟩ (.int .u32 d')) b d' s m B M := by
  refine ⟨by simpa [World.setCell] using h.hb, World.cell?_setCell_same w _ _ h.c0, ?_, ?_, fun i hi => ?_, fun i hi => ?_, fun o => (World.frozen?_setCell _ _ _ _).trans (h.fz o)⟩
  · rw [cell_off _ _ _ _ _ (by omega)]; exact h.c1
  · rw [cell_off _ _ _ _ _ (by omega)]; exact h.c3
  · rw [cell_off _ _ _ _ _ (by omega)]; exact h.cb i hi
  · rw [cell_off _ _ _ _ _ (by omega)]; exact h.cm i hi
theorem TabIn.set1 {w : World} {b : Nat} {d s m : Int} {B M : Nat → Nat} (h : TabIn w b d s m B M) (s' : Int) : TabIn (w.setCell ⟨b, 1, none⟩ (.int .i32 s')) b d s' m B M := by
  refine ⟨by simpa [World.setCell] using h.hb, ?_, World.cell?_setCell_same w _ _ h.c1, ?_, fun i hi => ?_, fun i hi => ?_, fun o => (World.frozen?_setCell _ _ _ _).trans (h.fz o)⟩
  · rw [cell_off _ _ _ _ _ (by omega)]; exact h.c0
  · rw [cell_off _ _ _ _ _ (by omega)]; exact h.c3
  · rw [cell_off _ _ _ _ _ (by omega)]; exact h.cb i hi
  · rw [cell_off _ _ _ _ _ (by omega)]; exact h.cm i hi
theorem TabIn.set3 {w : World} {b : Nat} {d s m : Int} {B M : Nat → Nat} (h : TabIn w b d s m B M) (m' : Int) : TabIn (w.setCell ⟨b, 3, none⟩ (.int .i64 m')) b d s m' B M := by
  refine ⟨by simpa [World.setCell] using h.hb, ?_, ?_, World.cell?_setCell_same w _ _ h.c3, fun i hi => ?_, fun i hi => ?_, fun o => (World.frozen?_setCell _ _ _ _).trans (h.fz o)⟩
  · rw [cell_off _ _ _ _ _ (by omega)]; exact h.c0
  · rw [cell_off _ _ _ _ _ (by omega)]; exact h.c1
  · rw [cell_off _ _ _ _ _ (by omega)]; exact h.cb i hi
  · rw [cell_off _ _ _ _ _ (by omega)]; exact h.cm i hi
def upd (f : Nat → Nat) (k v i : Nat) : Nat := if i = k then v else f i
theorem TabIn.setB {w : World} {b : Nat} {d s m : Int} {B M : Nat → Nat} (h : TabIn w b d s m B M) (k v : Nat) (hk : k < 256) : TabIn (w.setCell ⟨b, 4 + k, none⟩ (.int .u32 (v : Nat))) b d s m (upd B k v) M := by
  refine ⟨by simpa [World.setCell] using h.hb, ?_, ?_, ?_, fun i hi => ?_, fun i hi => ?_, fun o => (World.frozen?_setCell _ _ _ _).trans (h.fz o)⟩
  · rw [cell_off _ _ _ _ _ (by omega)]; exact h.c0
  · rw [cell_off _ _ _ _ _ (by omega)]; exact h.c1
  · rw [cell_off _ _ _ _ _ (by omega)]; exact h.c3
  · unfold upd
    by_cases he : i = k
    · subst he; rw [if_pos rfl, World.cell?_setCell_same _ _ _ (h.cb i hi)]
    · rw [if_neg he, cell_off _ _ _ _ _ (by omega), h.cb i hi]
  · rw [cell_off _ _ _ _ _ (by omega)]; exact h.cm i hi
theorem TabIn.setM {w : World} {b : Nat} {d s m : Int} {B M : Nat → Nat} (h : TabIn w b d s m B M) (k v : Nat) (hk : k < 63) : TabIn (w.setCell ⟨b, 260 + k, none⟩ (.int .u32 (v : Nat))) b d s m B (upd M k v) := by
  refine ⟨by simpa [World.setCell] using h.hb, ?_, ?_, ?_, fun i hi => ?_, fun i hi => ?_, fun o => (World.frozen?_setCell _ _ _ _).trans (h.fz o)⟩
  · rw [cell_off _ _ _ _ _ (by omega)]; exact h.c0
  · rw [cell_off _ _ _ _ _ (by omega)]; exact h.c1
  · rw [cell_off _ _ _ _ _ (by omega)]; exact h.c3
  · rw [cell_off _ _ _ _ _ (by omega)]; exact h.cb i hi
  · unfold upd
    by_cases he : i = k
    · subst he; rw [if_pos rfl, World.cell?_setCell_same _ _ _ (h.cm i hi)]
    · rw [if_neg he, cell_off _ _ _ _ _ (by omega), h.cm i hi]

/-! ### New -/
def no0 (_ : Nat) : Nat := 0
def tb8 (i : Nat) : Nat := tI i 8
def mv8 (i : Nat) : Nat := tI 2147483648 (8 * 2 ^ i)
def Ready (w : World) (b : Nat) : Prop := TabIn w b 1 0 1 tb8 mv8
def Fresh (w : World) (b : Nat) : Prop := TabIn w b 0 0 0 no0 no0
def zFL : List Value := .int .u32 0 :: .int .i32 0 :: .int .u32 0 :: .int .i64 0 :: List.replicate 319 (.int .u32 0)
def zF : Array Value := zFL.toArray
theorem zero_table (w : World) : (zeroValue 56).run Try.prog w = .ok (.agg zF) w := by kernel_rfl
theorem zF_at (i : Nat) (h : i < 319) : zF[4 + i]? = some (.int .u32 0) := by
  unfold zF zFL
  rw [List.getElem?_toArray, show 4 + i = i + 1 + 1 + 1 + 1 by omega]
  simp only [List.getElem?_cons_succ]
  rw [List.getElem?_replicate, if_pos h]
set_option maxRecDepth 100000 in
theorem new_any (w : World) : Calls Try.prog 17 #[] w fun e w' => e = .returned (.pointer (some ⟨w.heap.size, 0, none⟩)) ∧ w' = w.alloc (.cells zF 56) := by
  have hz := zero_table
  go_enter Try.func17, Try.ntmps17
  go_wp2
  go_ret
  exact ⟨rfl, rfl⟩
theorem zF_0 : zF[0]? = some (.int .u32 0) := by kernel_rfl
theorem zF_1 : zF[1]? = some (.int .i32 0) := by kernel_rfl
theorem zF_3 : zF[3]? = some (.int .i64 0) := by kernel_rfl
theorem new_table (w : World) (t : TypeId) : Fresh (w.alloc (.cells zF t)) w.heap.size := by
  have hc : ∀ o, (w.alloc (.cells zF t)).cell? ⟨w.heap.size, o, none⟩ = zF[o]? := fun o => World.cell?_alloc_at _ _ _ _ rfl
  refine ⟨by simp, (hc 0).trans zF_0, (hc 1).trans zF_1, (hc 3).trans zF_3, fun i hi => ?_, fun i hi => ?_, fun o => ?_⟩
  · rw [hc, zF_at i (by omega)]; rfl
  · rw [hc, show 260 + i = 4 + (256 + i) by omega, zF_at _ (by omega)]; rfl
  · rw [frozen?_alloc_cells]; simp [World.frozen?]

/-! ### Made -/
set_option maxHeartbeats 1000000 in
theorem made_any (b : Nat) (d s m : Int) (B M : Nat → Nat) (w : World) (hF : TabIn w b d s m B M) :
    Calls Try.prog 18 #[.pointer (some ⟨b, 0, none⟩)] w fun e w' => e = .returned (.int .i64 m) ∧ w' = w := by
  have c3 := hF.c3
  go_enter Try.func18, Try.ntmps18
  go_wp2_with (go_at_call 27; refine (count_load ⟨b, 3, none⟩ m _ c3).mono ?_; rintro e w' ⟨rfl, rfl⟩)
  go_ret
  exact ⟨rfl, rfl⟩
theorem made_nil (w : World) : Calls Try.prog 18 #[.pointer none] w fun e w' => e = .returned (.int .i64 0) ∧ w' = w := by
  go_enter Try.func18, Try.ntmps18
  go_wp2
  go_ret
  exact ⟨rfl, rfl⟩

end Go.Proofs.Ytkkffgoeagnfnaa
