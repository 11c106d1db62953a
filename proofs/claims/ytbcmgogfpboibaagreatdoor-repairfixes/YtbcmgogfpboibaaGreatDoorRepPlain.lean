/-
  Rows of columns with some lost, in plain arithmetic: what P and Q lack (lkP, lkQ), columns brought back (fixZ), and that a row whose parities fit is brought back whole, whichever two are lost. No condition.
-/
import Derived.Test.YtbcmgogfpboibaaGreatDoorSynEdit
namespace Go.Proofs.YtbcmgogfpboibaaGreatDoor
open Go.RowKit Plain

/-- all of one length. -/
def Sz (n : Nat) (l : List ByteArray) : Prop := ∀ s ∈ l, s.size = n
theorem Sz.set {n : Nat} {l : List ByteArray} (h : Sz n l) (i : Nat) {t : ByteArray} (ht : t.size = n) : Sz n (l.set i t) := set_sizes h ht i
theorem Sz.take {n : Nat} {l : List ByteArray} (h : Sz n l) (k : Nat) : Sz n (l.take k) := fun s hs => h s (List.mem_of_mem_take hs)
theorem Sz.at {n : Nat} {l : List ByteArray} (h : Sz n l) (i : Nat) (hi : i < l.length) : (l.getD i noS).size = n := h _ (mem_of_at l i hi)

def lkP (n k : Nat) (Z : List ByteArray) : ByteArray := parS n (Z.take (k + 1))
def lkQ (n k : Nat) (Z : List ByteArray) : ByteArray := foldS (wgtS n (Z.take k)) 1 (Z.getD (k + 1) noS)
def dvS (c : Nat) (s : ByteArray) : ByteArray := scaleS (dv 1 c) s
def byPL (n k : Nat) (Z : List ByteArray) (i : Nat) : List ByteArray := Z.set i (lkP n k Z)
def mkQL (n k : Nat) (Z : List ByteArray) : List ByteArray := Z.set (k + 1) (wgtS n (Z.take k))
def byQL (n k : Nat) (Z : List ByteArray) (i : Nat) : List ByteArray := Z.set i (dvS (pw i) (lkQ n k Z))
def firstS (n k : Nat) (Z : List ByteArray) (i j : Nat) : ByteArray := dvS (pw i ^^^ pw j) (foldS (lkQ n k Z) (pw j) (lkP n k Z))
def byBL (n k : Nat) (Z : List ByteArray) (i j : Nat) : List ByteArray := (Z.set i (firstS n k Z i j)).set j (foldS (lkP n k Z) 1 (firstS n k Z i j))
/-- all columns brought back: the lost ones are noughts in Z. -/
def fixZ (n k : Nat) (Z : List ByteArray) : List Nat → List ByteArray
  | [] => Z
  | [i] => if i ≤ k then byPL n k Z i else mkQL n k Z
  | [i, j] => if j = k + 1 then mkQL n k (byPL n k Z i) else if j = k then byPL n k (byQL n k Z i) k else byBL n k Z i j
  | _ => Z
/-- noughts in the place of the lost ones. -/
def blk (n : Nat) (Z : List ByteArray) (g : List Nat) : List ByteArray := g.foldl (fun Z i => Z.set i (zs n)) Z

theorem dv_inv (c x : Nat) (hc : c < 256) (h0 : c ≠ 0) (hx : x < 256) : ml (dv 1 c) (ml c x) = x := by
  rw [ml_assoc _ _ _ (dv_lt 1 c) hc hx, dv_back 1 c (by omega) hc h0, ml_one_left x hx]
theorem dv_as (q c : Nat) (hq : q < 256) (hc : c < 256) (h0 : c ≠ 0) : ml (dv 1 c) q = dv q c := by
  refine dv_only _ q c (ml_lt _ _ (dv_lt 1 c)) hc h0 ?_
  rw [ml_swap _ _ _ (dv_lt 1 c), dv_back 1 c (by omega) hc h0, ml_one_left q hq]
theorem pw_ne0 (i : Nat) : pw i ≠ 0 := by have := (pw_pos i).1; omega
theorem pw_apart {i j : Nat} (hi : i < 255) (hj : j < 255) (h : i ≠ j) : pw i ^^^ pw j ≠ 0 := fun e => by
  have e1 := xor_zero e
  have e2 := lg_pw i
  have e3 := lg_pw j
  rw [e1] at e2
  omega
theorem pw_x_lt (i j : Nat) : pw i ^^^ pw j < 256 := Nat.xor_lt_two_pow (n := 8) (pw_lt i) (pw_lt j)

theorem getD_take {l : List ByteArray} {i k : Nat} (h : i < k) : (l.take k).getD i noS = l.getD i noS := by
  rw [List.getD_eq_getElem?_getD, List.getD_eq_getElem?_getD, List.getElem?_take_of_lt h]
theorem take_out {l : List ByteArray} {i k : Nat} (h : k ≤ i) (t : ByteArray) : (l.set i t).take k = l.take k := by
  rw [List.take_set]
  apply List.set_eq_of_length_le
  rw [List.length_take]; omega
theorem getD_set_ne {l : List ByteArray} {i j : Nat} (h : i ≠ j) (t : ByteArray) : (l.set i t).getD j noS = l.getD j noS := by
  rw [List.getD_eq_getElem?_getD, List.getD_eq_getElem?_getD, List.getElem?_set_ne h]
theorem getD_set_eq {l : List ByteArray} {i : Nat} (h : i < l.length) (t : ByteArray) : (l.set i t).getD i noS = t := by
  rw [List.getD_eq_getElem?_getD, List.getElem?_set_self h]; rfl
theorem set_back {l : List ByteArray} {i : Nat} (t : ByteArray) : (l.set i t).set i (l.getD i noS) = l := by
  rw [List.set_set, set_self]

/-! ### bytes -/
theorem lkP_at {n k m : Nat} {Z : List ByteArray} (hZ : Sz n Z) (hm : m < n) : bAt (lkP n k Z) (m : Int) = xb m (Z.take (k + 1)) := par_at n m hm _ (hZ.take (k + 1))
theorem lkP_size {n k : Nat} {Z : List ByteArray} (hZ : Sz n Z) : (lkP n k Z).size = n := parS_size n _ (hZ.take (k + 1))
theorem lkQ_size {n k : Nat} {Z : List ByteArray} (hZ : Sz n Z) (hl : k + 1 < Z.length) : (lkQ n k Z).size = n := by
  unfold lkQ; rw [foldS_size]; exact hZ.at _ hl
theorem lkQ_at {n k m : Nat} {Z : List ByteArray} (hZ : Sz n Z) (hl : k + 1 < Z.length) (hm : m < n) : bAt (lkQ n k Z) (m : Int) = qb m (Z.take k) ^^^ bAt (Z.getD (k + 1) noS) (m : Int) := by
  unfold lkQ
  rw [foldS_at _ 1 (by omega) _ m (by rw [hZ.at _ hl]; exact hm), ml_one_left _ (bAt_lt _ _), wgt_at n m hm]
theorem dvS_size (c : Nat) (s : ByteArray) : (dvS c s).size = s.size := scaleS_size _ _
theorem dvS_at (c : Nat) (s : ByteArray) (m : Nat) (h : m < s.size) : bAt (dvS c s) (m : Int) = ml (dv 1 c) (bAt s (m : Int)) := scaleS_at _ (dv_lt 1 c) s m h
theorem xb_in (m k i : Nat) (Z : List ByteArray) (t : ByteArray) (hi : i ≤ k) (hl : k < Z.length) : xb m ((Z.set i t).take (k + 1)) = xb m (Z.take (k + 1)) ^^^ (bAt (Z.getD i noS) m ^^^ bAt t m) := by
  rw [List.take_set, xb_set m t _ i (by rw [List.length_take]; omega), getD_take (by omega)]
theorem qb_in (m k i : Nat) (Z : List ByteArray) (t : ByteArray) (hi : i < k) (hl : k ≤ Z.length) : qb m ((Z.set i t).take k) = qb m (Z.take k) ^^^ ml (pw i) (bAt (Z.getD i noS) m ^^^ bAt t m) := by
  rw [List.take_set, qb_set m t _ i (by rw [List.length_take]; omega), getD_take (by omega)]

/-! ### a row whose parities fit -/
structure Fits (n k : Nat) (A : List ByteArray) : Prop where
  len : A.length = k + 2
  sz : Sz n A
  p : ∀ m, m < n → xb m (A.take (k + 1)) = 0
  q : ∀ m, m < n → qb m (A.take k) = bAt (A.getD (k + 1) noS) (m : Int)

theorem one_p {n k : Nat} {A : List ByteArray} (h : Fits n k A) {i : Nat} (hi : i ≤ k) : lkP n k (A.set i (zs n)) = A.getD i noS := by
  have hs := h.sz.set i (zs_size n)
  have hl := h.len
  apply bs_ext
  · rw [lkP_size hs, h.sz.at i (by omega)]
  · intro m hm
    rw [lkP_size hs] at hm
    rw [lkP_at hs hm, xb_in m k i A _ hi (by omega), h.p m hm, zs_at, Nat.xor_zero, Nat.zero_xor]
theorem one_q {n k : Nat} {A : List ByteArray} (h : Fits n k A) : wgtS n (A.take k) = A.getD (k + 1) noS := by
  have hl := h.len
  apply bs_ext
  · rw [wgtS_size, h.sz.at _ (by omega)]
  · intro m hm
    rw [wgtS_size] at hm
    rw [wgt_at n m hm, h.q m hm]
theorem lkP_out {n k i : Nat} {Z : List ByteArray} (h : k + 1 ≤ i) (t : ByteArray) : lkP n k (Z.set i t) = lkP n k Z := by unfold lkP; rw [take_out h]
theorem lkQ_p {n k : Nat} {Z : List ByteArray} (t : ByteArray) : lkQ n k (Z.set k t) = lkQ n k Z := by unfold lkQ; rw [take_out (Nat.le_refl k), getD_set_ne (by omega)]
theorem data_q {n k : Nat} {A : List ByteArray} (h : Fits n k A) {i : Nat} (hi : i < k) : dvS (pw i) (lkQ n k (A.set i (zs n))) = A.getD i noS := by
  have hs := h.sz.set i (zs_size n)
  have hl := h.len
  have hl' : k + 1 < (A.set i (zs n)).length := by rw [List.length_set]; omega
  apply bs_ext
  · rw [dvS_size, lkQ_size hs hl', h.sz.at i (by omega)]
  · intro m hm
    rw [dvS_size, lkQ_size hs hl'] at hm
    rw [dvS_at _ _ m (by rw [lkQ_size hs hl']; exact hm), lkQ_at hs hl' hm, qb_in m k i A _ hi (by omega), getD_set_ne (by omega), h.q m hm, zs_at, Nat.xor_zero, Nat.xor_comm, ← Nat.xor_assoc, Nat.xor_self, Nat.zero_xor, dv_inv _ _ (pw_lt i) (pw_ne0 i) (bAt_lt _ _)]
theorem two_p {n k : Nat} {A : List ByteArray} (h : Fits n k A) {i j : Nat} (hi : i < j) (hj : j < k) {m : Nat} (hm : m < n) : bAt (lkP n k ((A.set i (zs n)).set j (zs n))) (m : Int) = bAt (A.getD i noS) (m : Int) ^^^ bAt (A.getD j noS) (m : Int) := by
  have hs := (h.sz.set i (zs_size n)).set j (zs_size n)
  have hl := h.len
  rw [lkP_at hs hm, xb_in m k j _ _ (by omega) (by rw [List.length_set]; omega), xb_in m k i A _ (by omega) (by omega), h.p m hm, getD_set_ne (by omega), zs_at, Nat.xor_zero, Nat.xor_zero, Nat.zero_xor]
theorem two_q {n k : Nat} {A : List ByteArray} (h : Fits n k A) {i j : Nat} (hi : i < j) (hj : j < k) {m : Nat} (hm : m < n) : bAt (lkQ n k ((A.set i (zs n)).set j (zs n))) (m : Int) = ml (pw i) (bAt (A.getD i noS) (m : Int)) ^^^ ml (pw j) (bAt (A.getD j noS) (m : Int)) := by
  have hs := (h.sz.set i (zs_size n)).set j (zs_size n)
  have hl := h.len
  have hl' : k + 1 < ((A.set i (zs n)).set j (zs n)).length := by rw [List.length_set, List.length_set]; omega
  rw [lkQ_at hs hl' hm, qb_in m k j _ _ hj (by rw [List.length_set]; omega), qb_in m k i A _ (by omega) (by omega), h.q m hm, getD_set_ne (by omega), getD_set_ne (by omega), getD_set_ne (by omega), zs_at, Nat.xor_zero, Nat.xor_zero, Nat.xor_comm, Nat.xor_assoc, ← Nat.xor_assoc, Nat.xor_self, Nat.zero_xor]
theorem byB_first {x y a b : Nat} (hx : x < 256) (hab : a ^^^ b < 256) (h0 : a ^^^ b ≠ 0) (ha : a < 256) (hb : b < 256) : ml (dv 1 (a ^^^ b)) (ml a x ^^^ ml b y ^^^ ml b (x ^^^ y)) = x := by
  have e : ml a x ^^^ ml b y ^^^ ml b (x ^^^ y) = ml (a ^^^ b) x := by
    rw [ml_sum b x y, Nat.xor_comm (ml b x), Nat.xor_assoc, ← Nat.xor_assoc (ml b y), Nat.xor_self, Nat.zero_xor, ml_comm a x ha hx, ml_comm b x hb hx, ← ml_sum, ml_comm x _ hx hab]
  rw [e, dv_inv _ _ hab h0 hx]
theorem two_first {n k : Nat} {A : List ByteArray} (h : Fits n k A) (hk : k ≤ 30) {i j : Nat} (hi : i < j) (hj : j < k) : firstS n k ((A.set i (zs n)).set j (zs n)) i j = A.getD i noS := by
  have hs := (h.sz.set i (zs_size n)).set j (zs_size n)
  have hl := h.len
  have hl' : k + 1 < ((A.set i (zs n)).set j (zs n)).length := by rw [List.length_set, List.length_set]; omega
  have hz : (foldS (lkQ n k ((A.set i (zs n)).set j (zs n))) (pw j) (lkP n k ((A.set i (zs n)).set j (zs n)))).size = n := by rw [foldS_size, lkP_size hs]
  apply bs_ext
  · unfold firstS; rw [dvS_size, hz, h.sz.at i (by omega)]
  · intro m hm
    unfold firstS at hm ⊢
    rw [dvS_size, hz] at hm
    rw [dvS_at _ _ m (by rw [hz]; exact hm), foldS_at _ _ (pw_lt j) _ m (by rw [lkP_size hs]; exact hm), two_p h hi hj hm, two_q h hi hj hm]
    exact byB_first (bAt_lt _ _) (pw_x_lt i j) (pw_apart (by omega) (by omega) (by omega)) (pw_lt i) (pw_lt j)
theorem two_second {n k : Nat} {A : List ByteArray} (h : Fits n k A) {i j : Nat} (hi : i < j) (hj : j < k) : foldS (lkP n k ((A.set i (zs n)).set j (zs n))) 1 (A.getD i noS) = A.getD j noS := by
  have hl := h.len
  have hz : (A.getD i noS).size = n := h.sz.at i (by omega)
  apply bs_ext
  · rw [foldS_size, hz, h.sz.at j (by omega)]
  · intro m hm
    rw [foldS_size, hz] at hm
    rw [foldS_at _ 1 (by omega) _ m (by rw [hz]; exact hm), two_p h hi hj hm, ml_one_left _ (bAt_lt _ _), Nat.xor_comm, ← Nat.xor_assoc, Nat.xor_self, Nat.zero_xor]

/-- whichever at most two columns are lost: all are told as they were. -/
theorem fix_one {n k : Nat} {A : List ByteArray} (h : Fits n k A) {i : Nat} (hi : i < k + 2) : fixZ n k (blk n A [i]) [i] = A := by
  show (if i ≤ k then byPL n k (A.set i (zs n)) i else mkQL n k (A.set i (zs n))) = A
  by_cases hk : i ≤ k
  · rw [if_pos hk]
    unfold byPL
    rw [one_p h hk, set_back]
  · rw [if_neg hk]
    obtain rfl : i = k + 1 := by omega
    unfold mkQL
    rw [take_out (by omega), one_q h, set_back]
theorem fix_two {n k : Nat} {A : List ByteArray} (h : Fits n k A) (hk : k ≤ 30) {i j : Nat} (hi : i < j) (hj : j < k + 2) : fixZ n k (blk n A [i, j]) [i, j] = A := by
  show (if j = k + 1 then mkQL n k (byPL n k ((A.set i (zs n)).set j (zs n)) i) else if j = k then byPL n k (byQL n k ((A.set i (zs n)).set j (zs n)) i) k else byBL n k ((A.set i (zs n)).set j (zs n)) i j) = A
  by_cases h1 : j = k + 1
  · rw [if_pos h1]
    subst h1
    unfold byPL
    rw [lkP_out (Nat.le_refl _), one_p h (by omega), List.set_comm _ _ (by omega), set_back]
    unfold mkQL
    rw [take_out (by omega), one_q h, set_back]
  · rw [if_neg h1]
    by_cases h2 : j = k
    · rw [if_pos h2]
      subst h2
      unfold byQL
      rw [lkQ_p, data_q h hi, List.set_comm _ _ (by omega), set_back]
      unfold byPL
      rw [one_p h (Nat.le_refl _), set_back]
    · rw [if_neg h2]
      unfold byBL
      rw [two_first h hk hi (by omega), two_second h hi (by omega)]
      rw [List.set_comm _ _ (show j ≠ i by omega), set_back, set_back]
theorem xb_append (m : Nat) (t : ByteArray) : ∀ l : List ByteArray, xb m (l ++ [t]) = xb m l ^^^ bAt t m
  | [] => by show bAt t m ^^^ 0 = 0 ^^^ bAt t m; rw [Nat.xor_zero, Nat.zero_xor]
  | s :: r => by
    show bAt s m ^^^ xb m (r ++ [t]) = bAt s m ^^^ xb m r ^^^ bAt t m
    rw [xb_append m t r, Nat.xor_assoc]
theorem row_fits {n : Nat} {D : List ByteArray} (h : Sz n D) : Fits n D.length (D ++ [parS n D, wgtS n D]) := by
  refine ⟨by simp, ?_, fun m hm => ?_, fun m hm => ?_⟩
  · intro s hs
    rcases List.mem_append.1 hs with h' | h'
    · exact h s h'
    · rcases List.mem_cons.1 h' with rfl | h''
      · exact parS_size n D h
      · rw [List.mem_singleton.1 h'']; exact wgtS_size n D
  · rw [show D ++ [parS n D, wgtS n D] = (D ++ [parS n D]) ++ [wgtS n D] by simp, List.take_append_of_le_length (by simp), List.take_of_length_le (by simp), xb_append, par_at n m hm D h, Nat.xor_self]
  · rw [List.take_append_of_le_length (by simp), List.take_of_length_le (by simp), List.getD_eq_getElem?_getD, List.getElem?_append_right (by omega), Nat.add_sub_cancel_left]
    show _ = bAt (wgtS n D) (m : Int)
    rw [wgt_at n m hm]

end Go.Proofs.YtbcmgogfpboibaaGreatDoor
