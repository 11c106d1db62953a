/-
  Parities, byte by byte: what a change of one column, a sum of columns does to them. No condition.
-/
import Derived.Test.YtbcmgogfpboibaaGreatDoorSynPlain
namespace Go.Proofs.YtbcmgogfpboibaaGreatDoor
open Go.RowKit Plain

def xb (i : Nat) (l : List ByteArray) : Nat := l.foldr (fun s x => bAt s i ^^^ x) 0
def qb (i : Nat) (l : List ByteArray) : Nat := l.foldr (fun s x => bAt s i ^^^ ml 2 x) 0
theorem qx_lt (i : Nat) : ∀ l, qb i l < 256
  | [] => by show 0 < 256; omega
  | s :: r => Nat.xor_lt_two_pow (n := 8) (bAt_lt s i) (ml_lt 2 _ (by omega))
theorem xx_lt (i : Nat) : ∀ l, xb i l < 256
  | [] => by show 0 < 256; omega
  | s :: r => Nat.xor_lt_two_pow (n := 8) (bAt_lt s i) (xx_lt i r)
theorem wgt_at (n i : Nat) (h : i < n) : ∀ l : List ByteArray, bAt (wgtS n l) (i : Int) = qb i l
  | [] => zs_at n i
  | s :: r => by
    show bAt (foldS s 2 (wgtS n r)) (i : Int) = bAt s i ^^^ ml 2 (qb i r)
    rw [foldS_at s 2 (by omega) _ i (by rw [wgtS_size]; exact h), wgt_at n i h r]
theorem par_from (n i : Nat) (h : i < n) : ∀ (l : List ByteArray) (acc : ByteArray), (∀ s ∈ l, s.size = n) → bAt (l.foldl (fun acc c => foldS acc 1 c) acc) (i : Int) = bAt acc (i : Int) ^^^ xb i l
  | [], acc, _ => by show _ = bAt acc i ^^^ 0; rw [Nat.xor_zero]; rfl
  | s :: r, acc, hs => by
    show bAt (r.foldl (fun acc c => foldS acc 1 c) (foldS acc 1 s)) (i : Int) = bAt acc i ^^^ (bAt s i ^^^ xb i r)
    rw [par_from n i h r _ (fun t ht => hs t (by simp [ht])), foldS_at acc 1 (by omega) s i (by rw [hs s (by simp)]; exact h), ml_one_left _ (bAt_lt _ _), Nat.xor_assoc]
theorem par_at (n i : Nat) (h : i < n) (l : List ByteArray) (hs : ∀ s ∈ l, s.size = n) : bAt (parS n l) (i : Int) = xb i l := by
  unfold parS
  rw [par_from n i h l _ hs, zs_at n i, Nat.zero_xor]
theorem xor_swap (a b c : Nat) : a ^^^ b ^^^ (a ^^^ c) = c ^^^ b := by
  rw [Nat.xor_comm a b, Nat.xor_assoc, ← Nat.xor_assoc a a c, Nat.xor_self, Nat.zero_xor, Nat.xor_comm]
theorem xb_set (i : Nat) (t : ByteArray) : ∀ (l : List ByteArray) (k : Nat), k < l.length → xb i (l.set k t) = xb i l ^^^ (bAt (l.getD k noS) i ^^^ bAt t i)
  | [], _, h => by simp at h
  | s :: r, 0, _ => by
    show bAt t i ^^^ xb i r = bAt s i ^^^ xb i r ^^^ (bAt s i ^^^ bAt t i)
    rw [xor_swap]
  | s :: r, k + 1, h => by
    show bAt s i ^^^ xb i (r.set k t) = bAt s i ^^^ xb i r ^^^ (bAt (r.getD k noS) i ^^^ bAt t i)
    rw [xb_set i t r k (by simpa using h), Nat.xor_assoc]
theorem qb_set (i : Nat) (t : ByteArray) : ∀ (l : List ByteArray) (k : Nat), k < l.length → qb i (l.set k t) = qb i l ^^^ ml (pw k) (bAt (l.getD k noS) i ^^^ bAt t i)
  | [], _, h => by simp at h
  | s :: r, 0, _ => by
    show bAt t i ^^^ ml 2 (qb i r) = bAt s i ^^^ ml 2 (qb i r) ^^^ ml 1 (bAt s i ^^^ bAt t i)
    rw [ml_one_left _ (Nat.xor_lt_two_pow (n := 8) (bAt_lt s i) (bAt_lt t i)), xor_swap]
  | s :: r, k + 1, h => by
    show bAt s i ^^^ ml 2 (qb i (r.set k t)) = bAt s i ^^^ ml 2 (qb i r) ^^^ ml (pw (k + 1)) (bAt (r.getD k noS) i ^^^ bAt t i)
    rw [qb_set i t r k (by simpa using h), ml_sum, ml_assoc 2 _ _ (by omega) (pw_lt k) (Nat.xor_lt_two_pow (n := 8) (bAt_lt _ i) (bAt_lt t i)), ml_comm 2 _ (by omega) (pw_lt k), ← pw_succ, Nat.xor_assoc]
theorem set_sizes {n : Nat} {l : List ByteArray} {t : ByteArray} (h : ∀ s ∈ l, s.size = n) (ht : t.size = n) (k : Nat) : ∀ s ∈ l.set k t, s.size = n := fun s hs => by
  rcases List.mem_or_eq_of_mem_set hs with h' | rfl
  · exact h s h'
  · exact ht
theorem par_set (n : Nat) (l : List ByteArray) (h : ∀ s ∈ l, s.size = n) (k : Nat) (hk : k < l.length) (t : ByteArray) (ht : t.size = n) : foldS (parS n l) 1 (foldS (l.getD k noS) 1 t) = parS n (l.set k t) := by
  apply bs_ext
  · rw [foldS_size, foldS_size, ht, parS_size n _ (set_sizes h ht k)]
  · intro i hi
    rw [foldS_size, foldS_size, ht] at hi
    rw [foldS_at _ 1 (by omega) _ i (by rw [foldS_size, ht]; exact hi), foldS_at _ 1 (by omega) t i (by rw [ht]; exact hi), ml_one_left _ (bAt_lt t _), ml_one_left _ (Nat.xor_lt_two_pow (n := 8) (bAt_lt _ _) (bAt_lt _ _)), par_at n i hi l h, par_at n i hi _ (set_sizes h ht k), xb_set i t l k hk]
theorem wgt_set (n : Nat) (l : List ByteArray) (k : Nat) (hk : k < l.length) (t : ByteArray) (ht : t.size = n) : foldS (wgtS n l) (pw k) (foldS (l.getD k noS) 1 t) = wgtS n (l.set k t) := by
  apply bs_ext
  · rw [foldS_size, foldS_size, ht, wgtS_size]
  · intro i hi
    rw [foldS_size, foldS_size, ht] at hi
    rw [foldS_at _ _ (pw_lt k) _ i (by rw [foldS_size, ht]; exact hi), foldS_at _ 1 (by omega) t i (by rw [ht]; exact hi), ml_one_left _ (bAt_lt t _), wgt_at n i hi l, wgt_at n i hi, qb_set i t l k hk]
/-- columns of one length, as many as may be. -/
theorem mk_all {n : Nat} {l : List ByteArray} (h2 : 2 ≤ l.length) (h30 : l.length ≤ 30) (hn : n ≤ 65536) (h : ∀ s ∈ l, s.size = n) : mkE l = 0 ∧ pS l = parS n l ∧ qS l = wgtS n l := by
  have h0 : (l.getD 0 noS).size = n := h _ (mem_of_at l 0 (by omega))
  have hf : fitE l = 0 := fit_ok (fun i hi => by rw [h _ (mem_of_at l i hi)]; exact hn) (fun i hi => by rw [h _ (mem_of_at l i hi), h0])
  have hm : mkE l = 0 := by rw [mk_in h2 h30, hf]
  exact ⟨hm, by rw [p_ok hm, h0], by rw [q_ok hm, h0]⟩
theorem fit_all4 {n : Nat} {p q o t : ByteArray} (hn : n ≤ 65536) (hp : p.size = n) (hq : q.size = n) (ho : o.size = n) (ht : t.size = n) : fitE [p, q, o, t] = 0 := by
  refine fit_ok (fun i hi => ?_) (fun i hi => ?_)
  · have h : i = 0 ∨ i = 1 ∨ i = 2 ∨ i = 3 := by simp at hi; omega
    rcases h with rfl | rfl | rfl | rfl
    · show p.size ≤ 65536; omega
    · show q.size ≤ 65536; omega
    · show o.size ≤ 65536; omega
    · show t.size ≤ 65536; omega
  · have h : i = 0 ∨ i = 1 ∨ i = 2 ∨ i = 3 := by simp at hi; omega
    rcases h with rfl | rfl | rfl | rfl
    · rfl
    · show q.size = p.size; omega
    · show o.size = p.size; omega
    · show t.size = p.size; omega

end Go.Proofs.YtbcmgogfpboibaaGreatDoor
