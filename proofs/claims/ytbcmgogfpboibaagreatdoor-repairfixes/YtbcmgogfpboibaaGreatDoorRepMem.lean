/-
  A fixer and a row under way, in memory: what their cells hold, and what is left where other blocks are turned. Plain facts; no condition.
-/
import Derived.Test.YtbcmgogfpboibaaGreatDoorRepSort
import Derived.Test.YtbcmgogfpboibaaGreatDoorRepPlain
import Derived.Test.YtbcmgogfpboibaaGreatDoorMeth
namespace Go.Proofs.YtbcmgogfpboibaaGreatDoor
open Go.RowKit Plain

/-- w' is w with whatever is new behind it, and with stores into the blocks of T. -/
structure Sp (T : List Nat) (w w' : World) : Prop where
  os : w'.os = w.os
  tape : w'.tape = w.tape
  output : w'.output = w.output
  size : w.heap.size ≤ w'.heap.size
  block : ∀ k, k < w.heap.size → k ∉ T → w'.heap[k]? = w.heap[k]?
theorem Sp.refl (T : List Nat) (w : World) : Sp T w w := ⟨rfl, rfl, rfl, Nat.le_refl _, fun _ _ _ => rfl⟩
theorem Sp.trans {T : List Nat} {a b c : World} (h : Sp T a b) (k : Sp T b c) : Sp T a c :=
  ⟨k.os.trans h.os, k.tape.trans h.tape, k.output.trans h.output, Nat.le_trans h.size k.size, fun i hi hn => (k.block i (Nat.lt_of_lt_of_le hi h.size) hn).trans (h.block i hi hn)⟩
theorem Sp.mono {T T' : List Nat} {a b : World} (h : Sp T a b) (hs : ∀ t, t ∈ T → t ∈ T') : Sp T' a b :=
  ⟨h.os, h.tape, h.output, h.size, fun i hi hn => h.block i hi (fun ht => hn (hs i ht))⟩
theorem Kp.sp {a b : World} (h : Kp a b) (T : List Nat) : Sp T a b := ⟨h.os, h.tape, h.output, h.size, fun i hi _ => h.block i hi⟩
theorem Sp.set {T : List Nat} {a b : World} (h : Sp T a b) (B i : Nat) (hB : B ∈ T) (v : Value) : Sp T a (b.setCell ⟨B, i, none⟩ v) :=
  h.trans ⟨rfl, rfl, rfl, by simp [World.setCell], fun k _ hk => Below.heap_setCell _ _ _ _ (fun e => hk (by rw [e]; exact hB))⟩
theorem Turned.sp {b : Nat} {w w' : World} (h : Turned b w w') : Sp [b] w w' :=
  ⟨h.same.1, h.same.2.1, h.same.2.2, h.size, fun k hk hn => h.block k hk (fun e => hn (by simp [e]))⟩
theorem Sp.kp {T : List Nat} {w0 w w' : World} (h0 : Kp w0 w) (h : Sp T w w') (hT : ∀ t, t ∈ T → w0.heap.size ≤ t) : Kp w0 w' :=
  ⟨h.os.trans h0.os, h.tape.trans h0.tape, h.output.trans h0.output, Nat.le_trans h0.size h.size, fun k hk => (h.block k (Nat.lt_of_lt_of_le hk h0.size) (fun ht => by have := hT k ht; omega)).trans (h0.block k hk)⟩
theorem Sp.cell {T : List Nat} {w w' : World} (h : Sp T w w') {b : Nat} (hb : b < w.heap.size) (hn : b ∉ T) (o : Nat) : w'.cell? ⟨b, o, none⟩ = w.cell? ⟨b, o, none⟩ := World.cell?_of_block (w := w) (a := ⟨b, o, none⟩) (h.block b hb hn)
theorem Sp.frozen {T : List Nat} {w w' : World} (h : Sp T w w') {b : Nat} (hb : b < w.heap.size) (hn : b ∉ T) (o : Nat) : w'.frozen? ⟨b, o, none⟩ = w.frozen? ⟨b, o, none⟩ := World.frozen?_of_block (w := w) (a := ⟨b, o, none⟩) (h.block b hb hn)
theorem Sp.held {T : List Nat} {w w' : World} (h : Sp T w w') {b o : Nat} {v : Value} (hc : w.cell? ⟨b, o, none⟩ = some v) (hn : b ∉ T) : w'.cell? ⟨b, o, none⟩ = some v := (h.cell (World.block_lt_of_cell? w _ hc) hn o).trans hc

/-- the fixer at block f, its field at block b, its counts. -/
structure FixIn (w : World) (f b : Nat) (cnt : Nat → Int) : Prop where
  hf : f < w.heap.size
  hb : b < w.heap.size
  ne : f ≠ b
  ptr : w.cell? ⟨f, 0, none⟩ = some (.pointer (some ⟨b, 0, none⟩))
  c : ∀ j, j < 8 → w.cell? ⟨f, 1 + j, none⟩ = some (.int .i64 (cnt j))
  z : ∀ o, w.frozen? ⟨f, o, none⟩ = false
  fld : Fresh w b ∨ Ready w b
theorem FixIn.sp {w w' : World} {f b : Nat} {cnt : Nat → Int} (h : FixIn w f b cnt) {T : List Nat} (k : Sp T w w') (hf : f ∉ T) (hb : b ∉ T) : FixIn w' f b cnt :=
  ⟨Nat.lt_of_lt_of_le h.hf k.size, Nat.lt_of_lt_of_le h.hb k.size, h.ne, k.held h.ptr hf, fun j hj => k.held (h.c j hj) hf, fun o => (k.frozen h.hf hf o).trans (h.z o), h.fld.imp (fun x => FieldIn.of_block x (k.block b h.hb hb) k.size) (fun x => FieldIn.of_block x (k.block b h.hb hb) k.size)⟩
theorem FixIn.kp {w w' : World} {f b : Nat} {cnt : Nat → Int} (h : FixIn w f b cnt) (k : Kp w w') : FixIn w' f b cnt := h.sp (k.sp []) (by simp) (by simp)
theorem FixIn.made {w w' : World} {f b : Nat} {cnt : Nat → Int} (h : FixIn w f b cnt) (k : Sp [b] w w') (hr : Ready w' b) : FixIn w' f b cnt := by
  have hf : f ∉ [b] := by simpa using h.ne
  exact ⟨Nat.lt_of_lt_of_le h.hf k.size, Nat.lt_of_lt_of_le h.hb k.size, h.ne, k.held h.ptr hf, fun j hj => k.held (h.c j hj) hf, fun o => (k.frozen h.hf hf o).trans (h.z o), .inr hr⟩
def up (cnt : Nat → Int) (j : Nat) : Nat → Int := fun i => if i = j then cnt j + 1 else cnt i
theorem FixIn.count {w : World} {f b : Nat} {cnt : Nat → Int} (h : FixIn w f b cnt) (j : Nat) (hj : j < 8) : FixIn (w.setCell ⟨f, 1 + j, none⟩ (.int .i64 (cnt j + 1))) f b (up cnt j) := by
  have k : Sp [f] w (w.setCell ⟨f, 1 + j, none⟩ (.int .i64 (cnt j + 1))) := (Sp.refl [f] w).set f _ (by simp) _
  have hb : b ∉ [f] := by simpa using fun e => h.ne e.symm
  refine ⟨Nat.lt_of_lt_of_le h.hf k.size, Nat.lt_of_lt_of_le h.hb k.size, h.ne, ?_, fun i hi => ?_, fun o => (World.frozen?_setCell _ _ _ _).trans (h.z o), h.fld.imp (fun x => FieldIn.of_block x (k.block b h.hb hb) k.size) (fun x => FieldIn.of_block x (k.block b h.hb hb) k.size)⟩
  · rw [cell_off _ _ _ _ _ (by omega)]; exact h.ptr
  · unfold up
    by_cases e : i = j
    · subst e; rw [World.cell?_setCell_same _ _ _ (h.c i hi), if_pos rfl]
    · rw [cell_off _ _ _ _ _ (by omega), h.c i hi, if_neg e]

/-- columns at block C. -/
structure ColIn (w : World) (C : Nat) (L : List ByteArray) : Prop where
  hC : C < w.heap.size
  c : ∀ i, i < L.length → w.cell? ⟨C, i, none⟩ = some (.string (L.getD i noS))
  z : ∀ o, w.frozen? ⟨C, o, none⟩ = false
theorem ColIn.sp {w w' : World} {C : Nat} {L : List ByteArray} (h : ColIn w C L) {T : List Nat} (k : Sp T w w') (hC : C ∉ T) : ColIn w' C L :=
  ⟨Nat.lt_of_lt_of_le h.hC k.size, fun i hi => k.held (h.c i hi) hC, fun o => (k.frozen h.hC hC o).trans (h.z o)⟩
theorem ColIn.set {w : World} {C : Nat} {L : List ByteArray} (h : ColIn w C L) (i : Nat) (hi : i < L.length) (t : ByteArray) : ColIn (w.setCell ⟨C, i, none⟩ (.string t)) C (L.set i t) := by
  refine ⟨by simpa [World.setCell] using h.hC, fun j hj => ?_, fun o => (World.frozen?_setCell _ _ _ _).trans (h.z o)⟩
  rw [List.length_set] at hj
  by_cases e : j = i
  · subst e; rw [World.cell?_setCell_same _ _ _ (h.c j hj), getD_set_eq hi]
  · rw [cell_off _ _ _ _ _ e, h.c j hj, getD_set_ne (fun e' => e e'.symm)]
theorem ColIn.strs {w : World} {C : Nat} {L : List ByteArray} (h : ColIn w C L) (m cap : Nat) (h0 : 0 < m) (hm : m ≤ L.length) (h1 : m ≤ cap) (h2 : cap ≤ maxLen) : StrsIn w (.slice (some ⟨C, 0, none⟩) m cap) (L.take m) := by
  have hl : (L.take m).length = m := by rw [List.length_take]; omega
  have H := StrsIn.some (w := w) C 0 cap (L.take m) (by omega) (by omega) h2 (fun i hi => by rw [Nat.zero_add, getD_take (by omega)]; exact h.c i (by omega))
  rwa [hl] at H

/-- a row under way at block R: its fixer at f, its columns at C, the lost ones' numbers gv. -/
structure RowIn (w : World) (R f b C k cap : Nat) (gv : Value) (L : List ByteArray) (cnt : Nat → Int) : Prop where
  hR : R < w.heap.size
  r0 : w.cell? ⟨R, 0, none⟩ = some (.pointer (some ⟨f, 0, none⟩))
  r1 : w.cell? ⟨R, 1, none⟩ = some (.int .i64 (k : Int))
  r2 : w.cell? ⟨R, 2, none⟩ = some (.slice (some ⟨C, 0, none⟩) (k + 2) cap)
  r3 : w.cell? ⟨R, 3, none⟩ = some gv
  cap1 : k + 2 ≤ cap
  cap2 : cap ≤ maxLen
  len : L.length = k + 2
  cols : ColIn w C L
  fix : FixIn w f b cnt
  n1 : R ≠ C
  n2 : R ≠ f
  n3 : R ≠ b
  n4 : C ≠ f
  n5 : C ≠ b
theorem RowIn.kp {w w' : World} {R f b C k cap : Nat} {gv : Value} {L : List ByteArray} {cnt : Nat → Int} (h : RowIn w R f b C k cap gv L cnt) (q : Kp w w') : RowIn w' R f b C k cap gv L cnt :=
  ⟨Nat.lt_of_lt_of_le h.hR q.size, q.held h.r0, q.held h.r1, q.held h.r2, q.held h.r3, h.cap1, h.cap2, h.len, h.cols.sp (q.sp []) (by simp), h.fix.kp q, h.n1, h.n2, h.n3, h.n4, h.n5⟩
theorem RowIn.made {w w' : World} {R f b C k cap : Nat} {gv : Value} {L : List ByteArray} {cnt : Nat → Int} (h : RowIn w R f b C k cap gv L cnt) (q : Sp [b] w w') (hr : Ready w' b) : RowIn w' R f b C k cap gv L cnt := by
  have hR : R ∉ [b] := by simpa using h.n3
  have hC : C ∉ [b] := by simpa using h.n5
  exact ⟨Nat.lt_of_lt_of_le h.hR q.size, q.held h.r0 hR, q.held h.r1 hR, q.held h.r2 hR, q.held h.r3 hR, h.cap1, h.cap2, h.len, h.cols.sp q hC, h.fix.made q hr, h.n1, h.n2, h.n3, h.n4, h.n5⟩
theorem RowIn.set {w : World} {R f b C k cap : Nat} {gv : Value} {L : List ByteArray} {cnt : Nat → Int} (h : RowIn w R f b C k cap gv L cnt) (i : Nat) (hi : i < k + 2) (t : ByteArray) : RowIn (w.setCell ⟨C, i, none⟩ (.string t)) R f b C k cap gv (L.set i t) cnt := by
  have q : Sp [C] w (w.setCell ⟨C, i, none⟩ (.string t)) := (Sp.refl [C] w).set C _ (by simp) _
  have hR : R ∉ [C] := by simpa using h.n1
  have hf : f ∉ [C] := by simpa using fun e => h.n4 e.symm
  have hb : b ∉ [C] := by simpa using fun e => h.n5 e.symm
  exact ⟨Nat.lt_of_lt_of_le h.hR q.size, q.held h.r0 hR, q.held h.r1 hR, q.held h.r2 hR, q.held h.r3 hR, h.cap1, h.cap2, by rw [List.length_set]; exact h.len, h.cols.set i (by rw [h.len]; exact hi) t, h.fix.sp q hf hb, h.n1, h.n2, h.n3, h.n4, h.n5⟩
theorem RowIn.count {w : World} {R f b C k cap : Nat} {gv : Value} {L : List ByteArray} {cnt : Nat → Int} (h : RowIn w R f b C k cap gv L cnt) (j : Nat) (hj : j < 8) : RowIn (w.setCell ⟨f, 1 + j, none⟩ (.int .i64 (cnt j + 1))) R f b C k cap gv L (up cnt j) := by
  have q : Sp [f] w (w.setCell ⟨f, 1 + j, none⟩ (.int .i64 (cnt j + 1))) := (Sp.refl [f] w).set f _ (by simp) _
  have hR : R ∉ [f] := by simpa using h.n2
  have hC : C ∉ [f] := by simpa using h.n4
  exact ⟨Nat.lt_of_lt_of_le h.hR q.size, q.held h.r0 hR, q.held h.r1 hR, q.held h.r2 hR, q.held h.r3 hR, h.cap1, h.cap2, h.len, h.cols.sp q hC, h.fix.count j hj, h.n1, h.n2, h.n3, h.n4, h.n5⟩
theorem IntsAt.sp {w w' : World} {B : Nat} {v : Value} {l : List Int} (h : IntsAt w B v l) {T : List Nat} (k : Sp T w w') (hT : ∀ t, t ∈ T → t < B) : IntsAt w' B v l := by
  cases h with
  | empty a cap h => exact .empty a cap h
  | some g cap l h0 h1 h2 hB hc => exact .some g cap l h0 h1 h2 hB (fun i hi => k.held (hc i hi) (fun ht => by have := hT g ht; omega))

end Go.Proofs.YtbcmgogfpboibaaGreatDoor
