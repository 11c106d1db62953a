/-
  A list of bytes made of a text, its bytes turned one by one, and the text made of it; what one byte of a column, and sums of columns, do to parities. No condition.
-/
import Derived.Test.YtbcmgogfpboibaaGreatDoorSynMore
import Derived.Laws.IdiomStrings
import Derived.Laws.Strings
import Derived.WideShapes
namespace Go.Proofs.YtbcmgogfpboibaaGreatDoor
open Go.RowKit Plain

/-- block B holds n bytes, none of them frozen. -/
structure Byt (W : World) (B n : Nat) (f : Nat → Nat) : Prop where
  cell : ∀ i, i < n → W.cell? ⟨B, i, none⟩ = some (.int .u8 ((f i : Nat) : Int))
  free : ∀ i, i < n → W.frozen? ⟨B, i, none⟩ = false
theorem Byt.kept {W W' : World} {B n : Nat} {f : Nat → Nat} (h : Byt W B n f) (k : Kp W W') (hB : B < W.heap.size) : Byt W' B n f :=
  ⟨fun i hi => k.held (h.cell i hi), fun i hi => (Below.frozen (p := ⟨B, i, none⟩) k hB).trans (h.free i hi)⟩
theorem Byt.set {W : World} {B n : Nat} {f : Nat → Nat} (h : Byt W B n f) (j x : Nat) : Byt (W.setCell ⟨B, j, none⟩ (.int .u8 (x : Int))) B n (fun i => if i = j then x else f i) :=
  ⟨fun i hi => by
    by_cases hj : i = j
    · subst hj
      show _ = some (Value.int .u8 (((if i = i then x else f i : Nat) : Nat) : Int))
      rw [if_pos rfl]
      exact World.cell?_setCell_same' _ _ _ (by rw [h.cell i hi]; rfl)
    · show _ = some (Value.int .u8 (((if i = j then x else f i : Nat) : Nat) : Int))
      rw [if_neg hj]
      exact (World.cell?_setCell_other _ _ _ _ (by intro e; cases e; exact hj rfl)).trans (h.cell i hi), fun i hi => by rw [World.frozen?_setCell]; exact h.free i hi⟩
theorem bytes_of (w : World) (s : ByteArray) : ∃ c W', (convert 9 59 (.string s)).run Tryz.prog w = .ok (.slice (some ⟨w.heap.size, 0, none⟩) s.size c) W' ∧ Kp w W' ∧ w.heap.size < W'.heap.size ∧ Byt W' w.heap.size s.size (fun i => bAt s (i : Int)) := by
  refine ⟨_, _, run_bytes_of_string (P := Tryz.prog) w 9 59 5 s Tryz.underlying9 Tryz.underlying59 Tryz.underlying5, ?_, ?_, ?_⟩
  · exact (Kp.refl w).drew.alloc _
  · show w.heap.size < (w.heap.push _).size
    simp
  · refine ⟨fun i hi => ?_, fun i hi => ?_⟩
    · have := World.cell?_alloc_mark w.drew (bytesRow s (grownCap w s.size 0 5)) 5 ((bytesRow s (grownCap w s.size 0 5)).size, (bytesRow s (grownCap w s.size 0 5)).size + 1) i
      refine this.trans ?_
      rw [bytesRow_at s _ i hi, bAt_nat s i hi]
      rfl
    · have := World.frozen?_alloc_mark w.drew (bytesRow s (grownCap w s.size 0 5)) 5 (bytesRow s (grownCap w s.size 0 5)).size ((bytesRow s (grownCap w s.size 0 5)).size + 1) i
      refine this.trans ?_
      have hz : s.size ≤ (bytesRow s (grownCap w s.size 0 5)).size := by unfold bytesRow; simp
      simp
      omega
theorem Byt.text {W : World} {B n : Nat} {f : Nat → Nat} (h : Byt W B n f) (c : Nat) : (convert 59 9 (.slice (some ⟨B, 0, none⟩) n c)).run Tryz.prog W = .ok (.string (bs n f)) W := by
  refine run_convert_bytes_arg (P := Tryz.prog) W 59 5 Tryz.underlying59 Tryz.underlying5 B 0 n c ((List.range n).map fun i => ((f i : Nat) : Int)) (by simp) (fun i hi => ?_) 9 Tryz.underlying9
  rw [Nat.zero_add, h.cell i (by simpa using hi)]
  simp only [List.getD_eq_getElem?_getD, List.getElem?_map]
  rw [List.getElem?_range (by simpa using hi)]
  rfl

/-! ### texts that differ -/
theorem text_ne {s t : ByteArray} (h : s ≠ t) : (s.toList == t.toList) = false := by
  rw [beq_eq_false_iff_ne]
  intro e
  rw [ByteArray.toList_eq, ByteArray.toList_eq] at e
  exact h (Go.WideShapes.bytes_inj e)
theorem ml_ne {a b : Nat} (ha : a < 256) (hb : b < 256) (ha0 : a ≠ 0) (hb0 : b ≠ 0) : ml a b ≠ 0 := by
  rw [ml_lg a b ha hb ha0 hb0]
  have := (pw_pos (lg a + lg b)).1
  omega
theorem xor_ne {a d : Nat} (h : a ^^^ d = a) : d = 0 := by
  have : a ^^^ (a ^^^ d) = a ^^^ a := by rw [h]
  rwa [← Nat.xor_assoc, Nat.xor_self, Nat.zero_xor] at this
theorem xor_zero {a b : Nat} (h : a ^^^ b = 0) : a = b := by
  have : a ^^^ (a ^^^ b) = a ^^^ 0 := by rw [h]
  rw [← Nat.xor_assoc, Nat.xor_self, Nat.zero_xor, Nat.xor_zero] at this
  exact this.symm
theorem one_par {n : Nat} {l : List ByteArray} (h : ∀ s ∈ l, s.size = n) {j : Nat} (hj : j < l.length) {t : ByteArray} (ht : t.size = n) {m : Nat} (hm : m < n) (hd : bAt (l.getD j noS) (m : Int) ≠ bAt t (m : Int)) : parS n (l.set j t) ≠ parS n l := fun e => by
  have e1 : bAt (parS n (l.set j t)) (m : Int) = bAt (parS n l) (m : Int) := by rw [e]
  rw [par_at n m hm _ (set_sizes h ht j), par_at n m hm l h, xb_set m t l j hj] at e1
  exact hd (xor_zero (xor_ne e1))
theorem one_wgt {n : Nat} {l : List ByteArray} {j : Nat} (hj : j < l.length) {t : ByteArray} {m : Nat} (hm : m < n) (hd : bAt (l.getD j noS) (m : Int) ≠ bAt t (m : Int)) : wgtS n (l.set j t) ≠ wgtS n l := fun e => by
  have e1 : bAt (wgtS n (l.set j t)) (m : Int) = bAt (wgtS n l) (m : Int) := by rw [e]
  rw [wgt_at n m hm, wgt_at n m hm, qb_set m t l j hj] at e1
  have hx : bAt (l.getD j noS) (m : Int) ^^^ bAt t (m : Int) < 256 := Nat.xor_lt_two_pow (n := 8) (bAt_lt _ _) (bAt_lt _ _)
  have hp := (pw_pos j).1
  exact ml_ne (pw_lt j) hx (by omega) (fun h0 => hd (xor_zero h0)) (xor_ne e1)
/-- one byte of a text by another. -/
def edS (s : ByteArray) (m y : Nat) : ByteArray := bs s.size (fun i => if i = m then bAt s (m : Int) ^^^ y else bAt s (i : Int))
theorem edS_size (s : ByteArray) (m y : Nat) : (edS s m y).size = s.size := bs_size _ _
theorem edS_zero (s : ByteArray) (m : Nat) : edS s m 0 = s := by
  apply bs_ext
  · exact edS_size s m 0
  · intro i hi
    rw [edS_size] at hi
    unfold edS
    rw [bAt_bs _ _ i hi]
    · by_cases h : i = m
      · rw [if_pos h, Nat.xor_zero, h]
      · rw [if_neg h]
    · by_cases h : i = m
      · rw [if_pos h, Nat.xor_zero]; exact bAt_lt _ _
      · rw [if_neg h]; exact bAt_lt _ _
theorem edS_ne (s : ByteArray) (m y : Nat) (hm : m < s.size) (hy : y < 256) (h0 : y ≠ 0) : bAt s (m : Int) ≠ bAt (edS s m y) (m : Int) := fun e => by
  unfold edS at e
  rw [bAt_bs _ _ m hm (by rw [if_pos rfl]; exact Nat.xor_lt_two_pow (n := 8) (bAt_lt _ _) hy), if_pos rfl] at e
  exact h0 (xor_ne e.symm)
theorem set_self {l : List ByteArray} {j : Nat} : l.set j (l.getD j noS) = l := by
  apply List.ext_getElem?
  intro i
  rw [List.getElem?_set]
  split
  · rename_i h
    subst h
    split
    · rename_i h2
      rw [List.getD_eq_getElem?_getD, List.getElem?_eq_getElem h2]; rfl
    · rename_i h2
      rw [List.getElem?_eq_none (by omega)]
  · rfl
theorem fits_other {l : List ByteArray} {p q : ByteArray} (h : p ≠ pS l) : fitsB l p q = false := by
  unfold fitsB
  rw [text_ne h]
  simp
theorem own_low {w : World} {base base' : Nat} {e : TypeId} {size : Nat} {v : Value} {n : Nat} {xs : List Value} (h : w.ownsRow base e size v n xs) (hb : base' ≤ base) : w.ownsRow base' e size v n xs := by
  rcases h.2 with ⟨h', h0⟩ | ⟨g, cap, cur, h', hg, hr⟩
  · exact ⟨h.1, .inl ⟨h', h0⟩⟩
  · exact ⟨h.1, .inr ⟨g, cap, cur, h', Nat.le_trans hb hg, hr⟩⟩
theorem edS_is {s : ByteArray} {n : Nat} (h : s.size = n) (m y : Nat) : bs n (fun i => if i = m then bAt s (m : Int) ^^^ y else bAt s (i : Int)) = edS s m y := by subst h; rfl
theorem make_all {n : Nat} {M : List ByteArray} {v : Value} {w : World} (h2 : 2 ≤ M.length) (h30 : M.length ≤ 30) (hn : n ≤ 60) (h : ∀ s ∈ M, s.size = n) (hS : StrsIn w v M) :
    Calls Tryz.prog 32 #[v] w fun e w' => e = .returned (.tuple #[.string (parS n M), .string (wgtS n M), .int .i64 0]) ∧ Kp w w' := by
  have H := make_any v M (sizes_small hn h) w hS
  obtain ⟨e0, e1, e2⟩ := mk_all h2 h30 (by omega) h
  rw [e0, e1, e2] at H
  exact H

end Go.Proofs.YtbcmgogfpboibaaGreatDoor
