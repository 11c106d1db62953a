/-
  A stripe's columns in memory: cells of a block by a function (Cl), columns at a place of it (Co), what is held of a stripe (hc). No condition.
-/
import Derived.Test.YtncdidklgpmefaaDoorCaPlain
namespace Go.Proofs.YtncdidklgpmefaaDoor
open Go.RowKit Plain
set_option linter.unusedVariables false

/-- the cells of a block: f tells what they hold. -/
structure Cl (w : World) (b m : Nat) (f : Nat → Value) : Prop where
  lt : b < w.heap.size
  c : ∀ j, j < m → w.cell? ⟨b, j, none⟩ = some (f j)
  z : ∀ j, w.frozen? ⟨b, j, none⟩ = false
section
variable {w w' : World} {b m : Nat} {f g : Nat → Value}
theorem Cl.blk (h : Cl w b m f) (k : w'.heap[b]? = w.heap[b]?) : Cl w' b m f :=
  ⟨by
    obtain ⟨o, ho⟩ : ∃ o, w.heap[b]? = some o := ⟨_, Array.getElem?_eq_getElem h.lt⟩
    exact heap_lt (k.trans ho), fun j hj => (World.cell?_of_block (w := w) (a := ⟨b, j, none⟩) k).trans (h.c j hj), fun j => (World.frozen?_of_block (w := w) (a := ⟨b, j, none⟩) k).trans (h.z j)⟩
theorem Cl.sp {T : List Nat} (h : Cl w b m f) (k : Sp T w w') (hb : b ∉ T) : Cl w' b m f := h.blk (k.block b h.lt hb)
theorem Cl.kp (h : Cl w b m f) (k : Kp w w') : Cl w' b m f := h.blk (k.block b h.lt)
theorem Cl.congr (h : Cl w b m f) (e : ∀ j, j < m → f j = g j) : Cl w b m g := ⟨h.lt, fun j hj => by rw [← e j hj]; exact h.c j hj, h.z⟩
theorem Cl.set (h : Cl w b m f) (k : Nat) (v : Value) (hk : k < m) : Cl (w.setCell ⟨b, k, none⟩ v) b m (fun j => if j = k then v else f j) := by
  refine ⟨by simpa [World.setCell] using h.lt, fun j hj => ?_, fun j => (World.frozen?_setCell _ _ _ _).trans (h.z j)⟩
  by_cases e : j = k
  · subst e; simp only [if_true]; exact World.cell?_setCell_same _ _ _ (h.c j hj)
  · rw [if_neg e, cell_off _ _ _ _ _ e]; exact h.c j hj
end
/-- columns as cells. -/
def cc (f : Int → ByteArray) (j : Nat) : Value := if j < 4 then .int .u64 (wd (stF f) j : Nat) else .string (f ((j - 4 : Nat) : Int))
def hc (h : Hd) (j : Nat) : Value := if j < 34 then cc h.n j else if j < 68 then cc h.o (j - 34) else .int .u64 (wd (sdF h.d) (j - 68) : Nat)
theorem cc_word (f : Int → ByteArray) {j : Nat} (h : j < 4) : cc f j = .int .u64 (wd (stF f) j : Nat) := if_pos h
theorem cc_text (f : Int → ByteArray) (i : Nat) : cc f (4 + i) = .string (f (i : Int)) := by
  unfold cc
  rw [if_neg (by omega), show 4 + i - 4 = i by omega]
/-- columns at a place of a block. -/
structure Co (w : World) (b off : Nat) (f : Int → ByteArray) : Prop where
  c : ∀ j, j < 34 → w.cell? ⟨b, off + j, none⟩ = some (cc f j)
  z : ∀ j, w.frozen? ⟨b, j, none⟩ = false
section
variable {w w' : World} {b off : Nat} {f : Int → ByteArray}
theorem Co.four (h : Co w b off f) : w.cell? ⟨b, off, none⟩ = some (.int .u64 (wd (stF f) 0 : Nat)) ∧ w.cell? ⟨b, off + 1, none⟩ = some (.int .u64 (wd (stF f) 1 : Nat)) ∧ w.cell? ⟨b, off + 2, none⟩ = some (.int .u64 (wd (stF f) 2 : Nat)) ∧ w.cell? ⟨b, off + 3, none⟩ = some (.int .u64 (wd (stF f) 3 : Nat)) :=
  ⟨h.c 0 (by omega), h.c 1 (by omega), h.c 2 (by omega), h.c 3 (by omega)⟩
theorem Co.text (h : Co w b off f) (i : Nat) (hi : i < 30) : w.cell? ⟨b, off + 4 + i, none⟩ = some (.string (f (i : Int))) := by
  have := h.c (4 + i) (by omega)
  rwa [cc_text, ← Nat.add_assoc] at this
theorem Co.kp (h : Co w b off f) (hb : b < w.heap.size) (k : Kp w w') : Co w' b off f :=
  ⟨fun j hj => k.held (h.c j hj), fun j => (World.frozen?_of_block (w := w) (a := ⟨b, j, none⟩) (k.block b hb)).trans (h.z j)⟩
end
theorem Cl.now {w : World} {b : Nat} {h : Hd} (k : Cl w b 72 (hc h)) : Co w b 0 h.n := ⟨fun j hj => by
  rw [Nat.zero_add, k.c j (by omega)]
  unfold hc
  rw [if_pos hj], k.z⟩
theorem Cl.old {w : World} {b : Nat} {h : Hd} (k : Cl w b 72 (hc h)) : Co w b 34 h.o := ⟨fun j hj => by
  rw [k.c (34 + j) (by omega)]
  unfold hc
  rw [if_neg (by omega), if_pos (by omega), show 34 + j - 34 = j by omega], k.z⟩
theorem Cl.dirty {w : World} {b : Nat} {h : Hd} (k : Cl w b 72 (hc h)) : w.cell? ⟨b, 68, none⟩ = some (.int .u64 (wd (sdF h.d) 0 : Nat)) ∧ w.cell? ⟨b, 69, none⟩ = some (.int .u64 (wd (sdF h.d) 1 : Nat)) ∧ w.cell? ⟨b, 70, none⟩ = some (.int .u64 (wd (sdF h.d) 2 : Nat)) ∧ w.cell? ⟨b, 71, none⟩ = some (.int .u64 (wd (sdF h.d) 3 : Nat)) :=
  ⟨k.c 68 (by omega), k.c 69 (by omega), k.c 70 (by omega), k.c 71 (by omega)⟩

set_option maxRecDepth 100000 in
set_option maxHeartbeats 1000000 in
theorem cget_any (b off : Nat) (f : Int → ByteArray) (W : Int) (hW : W ≤ 30) (hf : ∀ j, ¬ (0 ≤ j ∧ j < W) → f j = noS) (w : World) (h : Co w b off f) (hb : b < w.heap.size) (i : Int) :
    Calls Tryd.prog 26 #[.pointer (some ⟨b, off, none⟩), .int .i64 i] w fun e w' => e = .returned (.tuple #[.string (f i), .bool (isS (f i))]) ∧ Kp w w' := by
  have hH := has_anyL7 (stF f) i w
  rw [has_st f W hW hf] at hH
  obtain ⟨d0, d1, d2, d3⟩ := h.four
  unfold SV at hH
  cases hi : isS (f i) with
  | false =>
    have e : f i = noS := by
      unfold isS at hi
      have h0 : (f i).size = 0 := by simpa using hi
      apply ByteArray.ext
      exact Array.eq_empty_of_size_eq_zero h0
    rw [hi] at hH
    rw [e]
    clear h hf hi e
    go_enter Tryd.func26, Tryd.ntmps26
    go_wp2_with fail
    refine hH.mono ?_; rintro e w1 ⟨rfl, k1⟩
    clear hH
    go_wp2
    go_ret2
    exact ⟨rfl, k1⟩
  | true =>
    have hr : 0 ≤ i ∧ i < W := by
      by_cases hr : 0 ≤ i ∧ i < W
      · exact hr
      · rw [hf i hr, isS_no] at hi; cases hi
    obtain ⟨n, rfl⟩ : ∃ n : Nat, i = n := ⟨i.toNat, by omega⟩
    have hn : n < 30 := by omega
    have ht := h.text n hn
    rw [hi] at hH
    clear h hf hi hr
    go_enter Tryd.func26, Tryd.ntmps26
    go_wp2_with fail
    refine hH.mono ?_; rintro e w1 ⟨rfl, k1⟩
    have ht := k1.held ht
    clear hH
    go_wp2
    go_ret2
    exact ⟨rfl, k1⟩

end Go.Proofs.YtncdidklgpmefaaDoor
