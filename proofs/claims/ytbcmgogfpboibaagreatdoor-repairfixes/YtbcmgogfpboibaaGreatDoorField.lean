/-
  The field with its tables, in memory: what its 515 cells hold behind n rounds of the making; what a store into it leaves; contracts of New, Made, power and of the making of the tables. Conditions: that the field's cells hold what they are said to hold.
-/
import Derived.Test.YtbcmgogfpboibaaGreatDoorOnce
import Derived.Test.YtbcmgogfpboibaaGreatDoorLanes
import Derived.Test.YtbcmgogfpboibaaGreatDoorExt
import Derived.Test.YtbcmgogfpboibaaGreatDoorGfPlain
namespace Go.Proofs.YtbcmgogfpboibaaGreatDoor
open Go.RowKit Plain

/-- w' is w with new blocks, draws, and stores into block b alone. -/
structure Turned (b : Nat) (w w' : World) : Prop where
  block : ∀ k, k < w.heap.size → k ≠ b → w'.heap[k]? = w.heap[k]?
  size : w.heap.size ≤ w'.heap.size
  frozen : ∀ a, w'.frozen? a = w.frozen? a
  grown : ∀ W, Grown W w → W.heap.size ≤ b → Grown W w'
  same : w'.os = w.os ∧ w'.tape = w.tape ∧ w'.output = w.output

theorem Turned.refl (b : Nat) (w : World) : Turned b w w := ⟨fun _ _ _ => rfl, Nat.le_refl _, fun _ => rfl, fun _ h _ => h, rfl, rfl, rfl⟩
theorem Turned.trans {b : Nat} {w1 w2 w3 : World} (h : Turned b w1 w2) (k : Turned b w2 w3) : Turned b w1 w3 :=
  ⟨fun i hi hb => (k.block i (Nat.lt_of_lt_of_le hi h.size) hb).trans (h.block i hi hb), Nat.le_trans h.size k.size, fun a => (k.frozen a).trans (h.frozen a), fun W hg hs => k.grown W (h.grown W hg hs) hs, k.same.1.trans h.same.1, k.same.2.1.trans h.same.2.1, k.same.2.2.trans h.same.2.2⟩
theorem Turned.setCell {b : Nat} {w1 w2 : World} (h : Turned b w1 w2) (o : Nat) (v : Value) : Turned b w1 (w2.setCell ⟨b, o, none⟩ v) :=
  h.trans ⟨fun k _ hb => Below.heap_setCell _ _ _ _ hb, by simp [World.setCell], fun _ => World.frozen?_setCell _ _ _ _, fun _ hg hs => hg.setCell hs v, rfl, rfl, rfl⟩
theorem Turned.drew {b : Nat} {w1 w2 : World} (h : Turned b w1 w2) : Turned b w1 w2.drew :=
  h.trans ⟨fun _ _ _ => rfl, Nat.le_refl _, fun _ => rfl, fun _ hg _ => hg.drew, rfl, rfl, rfl⟩
theorem Turned.alloc {b : Nat} {w1 w2 : World} (h : Turned b w1 w2) (c : Array Value) (t : TypeId) : Turned b w1 (w2.alloc (.cells c t)) :=
  h.trans ⟨fun _ hk _ => Below.heap_alloc _ _ _ hk, by simp, fun a => frozen?_alloc_cells _ _ _ a, fun _ hg _ => hg.alloc c t, rfl, rfl, rfl⟩
theorem Turned.ext {b : Nat} {w1 w2 w3 : World} (h : Turned b w1 w2) (k : Ext w2 w3) : Turned b w1 w3 :=
  k.ind (Turned b w1) h (fun _ c t g => g.alloc c t) (fun _ g => g.drew)

/-- the field at block b: done, the lock's state, the count, the tables behind n rounds. -/
structure FieldIn (w : World) (b : Nat) (d s m : Int) (n : Nat) : Prop where
  hb : b < w.heap.size
  c0 : w.cell? ⟨b, 0, none⟩ = some (.int .u32 d)
  c1 : w.cell? ⟨b, 1, none⟩ = some (.int .i32 s)
  c3 : w.cell? ⟨b, 3, none⟩ = some (.int .i64 m)
  cp : ∀ i, i < 255 → w.cell? ⟨b, 4 + i, none⟩ = some (.int .u8 (pwT n i : Nat))
  cl : ∀ i, i < 256 → w.cell? ⟨b, 259 + i, none⟩ = some (.int .u8 (lgT n i : Nat))
  fz : ∀ o, w.frozen? ⟨b, o, none⟩ = false

theorem FieldIn.of_block {w w' : World} {b : Nat} {d s m : Int} {n : Nat} (h : FieldIn w b d s m n) (hk : w'.heap[b]? = w.heap[b]?) (hs : w.heap.size ≤ w'.heap.size) : FieldIn w' b d s m n := by
  have hc : ∀ o, w'.cell? ⟨b, o, none⟩ = w.cell? ⟨b, o, none⟩ := fun o => World.cell?_of_block (w := w) (a := ⟨b, o, none⟩) hk
  have hf : ∀ o, w'.frozen? ⟨b, o, none⟩ = w.frozen? ⟨b, o, none⟩ := fun o => World.frozen?_of_block (w := w) (a := ⟨b, o, none⟩) hk
  exact ⟨Nat.lt_of_lt_of_le h.hb hs, (hc 0).trans h.c0, (hc 1).trans h.c1, (hc 3).trans h.c3, fun i hi => (hc _).trans (h.cp i hi), fun i hi => (hc _).trans (h.cl i hi), fun o => (hf o).trans (h.fz o)⟩
theorem FieldIn.other {w w' : World} {b c : Nat} {d s m : Int} {n : Nat} (h : FieldIn w b d s m n) (k : Turned c w w') (hbc : b ≠ c) : FieldIn w' b d s m n :=
  h.of_block (k.block b h.hb hbc) k.size
theorem FieldIn.ext {w w' : World} {b : Nat} {d s m : Int} {n : Nat} (h : FieldIn w b d s m n) (k : Ext w w') : FieldIn w' b d s m n :=
  h.of_block (k.below.block b h.hb) k.size
theorem FieldIn.extp {w : World} {b : Nat} {d s m : Int} {n : Nat} (h : FieldIn w b d s m n) (p : List (Option (Array Value × TypeId))) : FieldIn (extp w p) b d s m n := h.ext (extp_ext w p)
theorem FieldIn.drew {w : World} {b : Nat} {d s m : Int} {n : Nat} (h : FieldIn w b d s m n) : FieldIn w.drew b d s m n := h.ext ((Ext.refl w).drew)

theorem cell_off (w : World) (b o o' : Nat) (v : Value) (h : o' ≠ o) : (w.setCell ⟨b, o, none⟩ v).cell? ⟨b, o', none⟩ = w.cell? ⟨b, o', none⟩ :=
  World.cell?_setCell_other w ⟨b, o, none⟩ ⟨b, o', none⟩ v (fun hh => h (by have := congrArg Addr.off hh; simp at this; omega))
theorem FieldIn.set0 {w : World} {b : Nat} {d s m : Int} {n : Nat} (h : FieldIn w b d s m n) (d' : Int) : FieldIn (w.setCell ⟨b, 0, none⟩ (.int .u32 d')) b d' s m n := by
  refine ⟨by simpa [World.setCell] using h.hb, World.cell?_setCell_same w _ _ h.c0, ?_, ?_, fun i hi => ?_, fun i hi => ?_, fun o => (World.frozen?_setCell _ _ _ _).trans (h.fz o)⟩
  · rw [cell_off _ _ _ _ _ (by omega)]; exact h.c1
  · rw [cell_off _ _ _ _ _ (by omega)]; exact h.c3
  · rw [cell_off _ _ _ _ _ (by omega)]; exact h.cp i hi
  · rw [cell_off _ _ _ _ _ (by omega)]; exact h.cl i hi
theorem FieldIn.set1 {w : World} {b : Nat} {d s m : Int} {n : Nat} (h : FieldIn w b d s m n) (s' : Int) : FieldIn (w.setCell ⟨b, 1, none⟩ (.int .i32 s')) b d s' m n := by
  refine ⟨by simpa [World.setCell] using h.hb, ?_, World.cell?_setCell_same w _ _ h.c1, ?_, fun i hi => ?_, fun i hi => ?_, fun o => (World.frozen?_setCell _ _ _ _).trans (h.fz o)⟩
  · rw [cell_off _ _ _ _ _ (by omega)]; exact h.c0
  · rw [cell_off _ _ _ _ _ (by omega)]; exact h.c3
  · rw [cell_off _ _ _ _ _ (by omega)]; exact h.cp i hi
  · rw [cell_off _ _ _ _ _ (by omega)]; exact h.cl i hi
theorem FieldIn.set3 {w : World} {b : Nat} {d s m : Int} {n : Nat} (h : FieldIn w b d s m n) (m' : Int) : FieldIn (w.setCell ⟨b, 3, none⟩ (.int .i64 m')) b d s m' n := by
  refine ⟨by simpa [World.setCell] using h.hb, ?_, ?_, World.cell?_setCell_same w _ _ h.c3, fun i hi => ?_, fun i hi => ?_, fun o => (World.frozen?_setCell _ _ _ _).trans (h.fz o)⟩
  · rw [cell_off _ _ _ _ _ (by omega)]; exact h.c0
  · rw [cell_off _ _ _ _ _ (by omega)]; exact h.c1
  · rw [cell_off _ _ _ _ _ (by omega)]; exact h.cp i hi
  · rw [cell_off _ _ _ _ _ (by omega)]; exact h.cl i hi
theorem pwT_step (n i : Nat) (h : i ≠ n) : pwT (n + 1) i = pwT n i := by
  unfold pwT
  by_cases h1 : i < n
  · rw [if_pos h1, if_pos (by omega)]
  · rw [if_neg h1, if_neg (by omega)]
theorem pwT_at (n : Nat) : pwT (n + 1) n = pw n := by unfold pwT; rw [if_pos (by omega)]
theorem FieldIn.step {w : World} {b : Nat} {d s m : Int} {n : Nat} (h : FieldIn w b d s m n) (hn : n < 255) (X : Nat) (hX : pw n = X) :
    FieldIn ((w.setCell ⟨b, 4 + n, none⟩ (.int .u8 (X : Nat))).setCell ⟨b, 259 + X, none⟩ (.int .u8 (n : Nat))) b d s m (n + 1) := by
  have hp := (pw_pos n).2
  subst hX
  have k1 : (w.setCell ⟨b, 4 + n, none⟩ (.int .u8 (pw n : Nat))).cell? ⟨b, 259 + pw n, none⟩ = some (.int .u8 (lgT n (pw n) : Nat)) := by
    rw [cell_off _ _ _ _ _ (by omega)]; exact h.cl _ hp
  refine ⟨by simpa [World.setCell] using h.hb, ?_, ?_, ?_, fun i hi => ?_, fun i hi => ?_, fun o => (World.frozen?_setCell _ _ _ _).trans ((World.frozen?_setCell _ _ _ _).trans (h.fz o))⟩
  · rw [cell_off _ _ _ _ _ (by omega), cell_off _ _ _ _ _ (by omega)]; exact h.c0
  · rw [cell_off _ _ _ _ _ (by omega), cell_off _ _ _ _ _ (by omega)]; exact h.c1
  · rw [cell_off _ _ _ _ _ (by omega), cell_off _ _ _ _ _ (by omega)]; exact h.c3
  · rw [cell_off _ _ _ _ _ (by omega)]
    by_cases he : i = n
    · subst he; rw [World.cell?_setCell_same _ _ _ (h.cp i hi), pwT_at]
    · rw [cell_off _ _ _ _ _ (by omega), h.cp i hi, pwT_step _ _ he]
  · by_cases he : i = pw n
    · subst he; rw [World.cell?_setCell_same _ _ _ k1]; simp [lgT]
    · rw [cell_off _ _ _ _ _ (by omega), cell_off _ _ _ _ _ (by omega), h.cl i hi]
      simp only [lgT]; rw [if_neg he]

/-! ### New -/
def zFL : List Value := .int .u32 0 :: .int .i32 0 :: .int .u32 0 :: .int .i64 0 :: List.replicate 511 (.int .u8 0)
def zF : Array Value := zFL.toArray
theorem zero_field (w : World) : (zeroValue 100).run Tryz.prog w = .ok (.agg zF) w := by kernel_rfl
theorem zF_at (i : Nat) (h : i < 511) : zF[4 + i]? = some (.int .u8 0) := by
  unfold zF zFL
  rw [List.getElem?_toArray, show 4 + i = i + 1 + 1 + 1 + 1 by omega]
  simp only [List.getElem?_cons_succ]
  rw [List.getElem?_replicate, if_pos h]
set_option maxRecDepth 100000 in
theorem new_any (w : World) : Calls Tryz.prog 25 #[] w fun e w' => e = .returned (.pointer (some ⟨w.heap.size, 0, none⟩)) ∧ w' = w.alloc (.cells zF 100) := by
  have hz := zero_field
  go_enter Tryz.func25, Tryz.ntmps25
  go_wp2
  go_ret
  exact ⟨rfl, rfl⟩
theorem zF_0 : zF[0]? = some (.int .u32 0) := by kernel_rfl
theorem zF_1 : zF[1]? = some (.int .i32 0) := by kernel_rfl
theorem zF_3 : zF[3]? = some (.int .i64 0) := by kernel_rfl
theorem new_field (w : World) (t : TypeId) : FieldIn (w.alloc (.cells zF t)) w.heap.size 0 0 0 0 := by
  have hc : ∀ o, (w.alloc (.cells zF t)).cell? ⟨w.heap.size, o, none⟩ = zF[o]? := fun o => World.cell?_alloc_at _ _ _ _ rfl
  refine ⟨by simp, (hc 0).trans zF_0, (hc 1).trans zF_1, (hc 3).trans zF_3, fun i hi => ?_, fun i hi => ?_, fun o => ?_⟩
  · rw [hc, zF_at i (by omega)]; rfl
  · rw [hc, show 259 + i = 4 + (255 + i) by omega, zF_at _ (by omega)]; rfl
  · rw [frozen?_alloc_cells]; simp [World.frozen?]

/-! ### Made, power -/

end Go.Proofs.YtbcmgogfpboibaaGreatDoor
