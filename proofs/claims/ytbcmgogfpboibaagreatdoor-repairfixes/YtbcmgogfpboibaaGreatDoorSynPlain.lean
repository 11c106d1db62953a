/-
  Parities, in plain arithmetic: the sum of columns (parS), the sum of columns by their weights (wgtS), column by column and from the last one on; what a change, a sum, one byte of columns does to them. No condition.
-/
import Derived.Test.YtbcmgogfpboibaaGreatDoorBufFit
namespace Go.Proofs.YtbcmgogfpboibaaGreatDoor
open Go.RowKit Plain

/-- each column times its weight: doubled from the last one on. -/
def wgtS (n : Nat) (l : List ByteArray) : ByteArray := l.foldr (fun c acc => foldS c 2 acc) (zs n)
theorem wgtS_size (n : Nat) : ∀ l : List ByteArray, (wgtS n l).size = n
  | [] => zs_size n
  | c :: r => by
    show (foldS c 2 (wgtS n r)).size = n
    rw [foldS_size, wgtS_size n r]
/-- the sum of columns, from noughts on. -/
def parS (n : Nat) (l : List ByteArray) : ByteArray := l.foldl (fun acc c => foldS acc 1 c) (zs n)
theorem zs_fold (n : Nat) (s : ByteArray) (h : s.size = n) : foldS (zs n) 1 s = s := by
  apply bs_ext
  · rw [foldS_size]
  · intro i hi
    rw [foldS_size] at hi
    rw [foldS_at _ 1 (by omega) s i hi, ml_one_left _ (bAt_lt _ _), show zs n = bs n (fun _ => 0) from rfl, bAt_bs n _ i (by omega) (by omega), Nat.zero_xor]
theorem par_add (n : Nat) (s : ByteArray) (r : List ByteArray) (h : s.size = n) : parS n (s :: r) = addS (s :: r) := by
  show List.foldl _ (foldS (zs n) 1 s) r = List.foldl _ s r
  rw [zs_fold n s h]
/-- by weights, column by column. -/
def refQ : Nat → ByteArray → List ByteArray → ByteArray
  | _, acc, [] => acc
  | k, acc, s :: r => refQ (k + 1) (foldS acc (pw k) s) r
theorem pw_lt (k : Nat) : pw k < 256 := (pw_pos k).2
theorem pw_succ (k : Nat) : pw (k + 1) = ml (pw k) 2 := by rw [ml_two _ (pw_lt k)]; rfl
theorem fold_step (acc s q : ByteArray) (k n : Nat) (hs : s.size = n) (hq : q.size = n) : foldS (foldS acc (pw k) s) (pw (k + 1)) q = foldS acc (pw k) (foldS s 2 q) := by
  apply bs_ext
  · simp only [foldS_size]
  · intro i hi
    simp only [foldS_size] at hi
    rw [foldS_at _ _ (pw_lt _) q i hi, foldS_at acc _ (pw_lt _) s i (by omega), foldS_at acc _ (pw_lt _) _ i (by rw [foldS_size]; exact hi), foldS_at s 2 (by omega) q i hi, ml_sum, pw_succ, ← ml_assoc _ 2 _ (pw_lt k) (by omega) (bAt_lt _ _), Nat.xor_assoc]
theorem refQ_is (n : Nat) : ∀ (l : List ByteArray) (k : Nat) (acc : ByteArray), acc.size = n → (∀ s ∈ l, s.size = n) → refQ k acc l = foldS acc (pw k) (wgtS n l)
  | [], k, acc, ha, _ => by
    show acc = foldS acc (pw k) (zs n)
    apply bs_ext
    · rw [foldS_size, zs_size, ha]
    · intro i hi
      rw [foldS_at _ _ (pw_lt _) _ i (by rw [zs_size]; omega), show zs n = bs n (fun _ => 0) from rfl, bAt_bs n _ i (by omega) (by omega), ml_zero _ (pw_lt _), Nat.xor_zero]
  | s :: r, k, acc, ha, h => by
    have hs := h s (by simp)
    show refQ (k + 1) (foldS acc (pw k) s) r = foldS acc (pw k) (foldS s 2 (wgtS n r))
    rw [refQ_is n r (k + 1) _ (by rw [foldS_size, hs]) (fun t ht => h t (by simp [ht])), fold_step _ _ _ _ n hs (wgtS_size n r)]
theorem wgt_ref (n : Nat) (l : List ByteArray) (h : ∀ s ∈ l, s.size = n) : refQ 0 (zs n) l = wgtS n l := by
  rw [refQ_is n l 0 _ (zs_size n) h]
  exact zs_fold n _ (wgtS_size n l)
theorem refQ_snoc (s : ByteArray) : ∀ (l : List ByteArray) (k : Nat) (acc : ByteArray), refQ k acc (l ++ [s]) = foldS (refQ k acc l) (pw (k + l.length)) s
  | [], k, acc => rfl
  | t :: r, k, acc => by
    show refQ (k + 1) _ (r ++ [s]) = foldS (refQ (k + 1) _ r) _ s
    rw [refQ_snoc s r, List.length_cons, show k + 1 + r.length = k + (r.length + 1) by omega]
theorem refQ_take (l : List ByteArray) (acc : ByteArray) (k : Nat) (h : k < l.length) : refQ 0 acc (l.take (k + 1)) = foldS (refQ 0 acc (l.take k)) (pw k) (l.getD k noS) := by
  rw [List.take_add_one, List.getElem?_eq_getElem h, Option.toList_some, refQ_snoc, List.length_take, Nat.min_eq_left (by omega), Nat.zero_add, List.getD_eq_getElem?_getD, List.getElem?_eq_getElem h]; rfl
theorem refQ_size (n : Nat) : ∀ (l : List ByteArray) (k : Nat) (acc : ByteArray), acc.size = n → (∀ s ∈ l, s.size = n) → (refQ k acc l).size = n
  | [], _, _, ha, _ => ha
  | s :: r, k, acc, _, h => refQ_size n r (k + 1) _ (by rw [foldS_size]; exact h s (by simp)) (fun t ht => h t (by simp [ht]))
theorem parS_take (n : Nat) (l : List ByteArray) (k : Nat) (h : k < l.length) : parS n (l.take (k + 1)) = foldS (parS n (l.take k)) 1 (l.getD k noS) := by
  unfold parS
  rw [List.take_add_one, List.getElem?_eq_getElem h, Option.toList_some, List.foldl_append, List.getD_eq_getElem?_getD, List.getElem?_eq_getElem h]; rfl
theorem par_size (n : Nat) : ∀ (l : List ByteArray) (acc : ByteArray), acc.size = n → (∀ s ∈ l, s.size = n) → (l.foldl (fun acc c => foldS acc 1 c) acc).size = n
  | [], _, ha, _ => ha
  | s :: r, acc, _, h => par_size n r _ (by rw [foldS_size]; exact h s (by simp)) (fun t ht => h t (by simp [ht]))
theorem parS_size (n : Nat) (l : List ByteArray) (h : ∀ s ∈ l, s.size = n) : (parS n l).size = n := par_size n l _ (zs_size n) h
/-- buffers of one length, as the document words it. -/
theorem fit_all {l : List ByteArray} (h : fitE l = 0) : ∀ s ∈ l, s.size = (l.getD 0 noS).size := all_of_at (P := fun s => s.size = (l.getD 0 noS).size) (fit_is l h).2

/-! ### what Make, Power, Delta answer -/
def mkE (l : List ByteArray) : Int := if l.length < 2 ∨ 30 < l.length then 3 else fitE l
def pS (l : List ByteArray) : ByteArray := if mkE l = 0 then parS (l.getD 0 noS).size l else noS
def qS (l : List ByteArray) : ByteArray := if mkE l = 0 then wgtS (l.getD 0 noS).size l else noS
theorem mk_out {l : List ByteArray} (h : l.length < 2 ∨ 30 < l.length) : mkE l = 3 := by unfold mkE; rw [if_pos h]
theorem mk_in {l : List ByteArray} (h1 : 2 ≤ l.length) (h2 : l.length ≤ 30) : mkE l = fitE l := by unfold mkE; rw [if_neg (by omega)]
theorem mk_ok {l : List ByteArray} (h : mkE l = 0) : 2 ≤ l.length ∧ l.length ≤ 30 ∧ fitE l = 0 := by
  unfold mkE at h
  split at h
  · cases h
  · exact ⟨by omega, by omega, h⟩
theorem p_ok {l : List ByteArray} (h : mkE l = 0) : pS l = parS (l.getD 0 noS).size l := by unfold pS; rw [if_pos h]
theorem q_ok {l : List ByteArray} (h : mkE l = 0) : qS l = wgtS (l.getD 0 noS).size l := by unfold qS; rw [if_pos h]
theorem p_not {l : List ByteArray} (h : mkE l ≠ 0) : pS l = noS := by unfold pS; rw [if_neg h]
theorem q_not {l : List ByteArray} (h : mkE l ≠ 0) : qS l = noS := by unfold qS; rw [if_neg h]
theorem p_add {l : List ByteArray} (h : mkE l = 0) : pS l = addS l := by
  rw [p_ok h]
  cases l with
  | nil => exact absurd (mk_ok h).1 (by simp)
  | cons s r => exact par_add _ s r rfl
def pwI (i : Int) : Nat := if 0 ≤ i ∧ i < 30 then pw i.toNat else 0
theorem pwI_out {i : Int} (h : ¬ (0 ≤ i ∧ i < 30)) : pwI i = 0 := by unfold pwI; rw [if_neg h]
theorem pwI_in (k : Nat) (h : k < 30) : pwI (k : Int) = pw k := by unfold pwI; rw [if_pos ⟨by omega, by omega⟩]; rfl
theorem pwI_lt (i : Int) : pwI i < 256 := by
  unfold pwI
  split
  · exact pw_lt _
  · omega
def dlE (i : Int) (l : List ByteArray) : Int := if 0 ≤ i ∧ i < 30 then fitE l else 3
def dlP (i : Int) (p q o n : ByteArray) : ByteArray := if dlE i [p, q, o, n] = 0 then foldS p 1 (foldS o 1 n) else noS
def dlQ (i : Int) (p q o n : ByteArray) : ByteArray := if dlE i [p, q, o, n] = 0 then foldS q (pwI i) (foldS o 1 n) else noS
theorem dl_out {i : Int} (h : ¬ (0 ≤ i ∧ i < 30)) (l : List ByteArray) : dlE i l = 3 := by unfold dlE; rw [if_neg h]
theorem dl_in {i : Int} (h : 0 ≤ i ∧ i < 30) (l : List ByteArray) : dlE i l = fitE l := by unfold dlE; rw [if_pos h]
theorem fit_four {p q o n : ByteArray} (h : fitE [p, q, o, n] = 0) : p.size ≤ 65536 ∧ q.size = p.size ∧ o.size = p.size ∧ n.size = p.size :=
  ⟨(fit_is _ h).1 0 (by simp), (fit_is _ h).2 1 (by simp), (fit_is _ h).2 2 (by simp), (fit_is _ h).2 3 (by simp)⟩
theorem fold_twice (p o n : ByteArray) (c : Nat) (hc : c < 256) (h : o.size = n.size) : foldS (foldS p c o) c n = foldS p c (foldS o 1 n) := by
  apply bs_ext
  · simp only [foldS_size]
  · intro i hi
    simp only [foldS_size] at hi
    rw [foldS_at _ c hc n i hi, foldS_at p c hc o i (by omega), foldS_at p c hc _ i (by rw [foldS_size]; exact hi), foldS_at o 1 (by omega) n i hi, ml_one_left _ (bAt_lt _ _), ml_sum, Nat.xor_assoc]

end Go.Proofs.YtbcmgogfpboibaaGreatDoor
