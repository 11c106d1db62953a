/-
  Sums of columns: column by column (addT); their parities are the sums of the parities. Rows of the call's own that lie apart, behind an append to one of them. No condition.
-/
import Derived.Test.YtjjghmdkpcbamaaSynEdit
import Derived.Deep.AppendLies
namespace Go.Proofs.Ytjjghmdkpcbamaa
open Go.RowKit Plain

def addT (L T : List ByteArray) : List ByteArray := List.zipWith (fun s t => foldS s 1 t) L T
theorem addT_snoc (L T : List ByteArray) (k : Nat) (hk : k < L.length) (hT : T.length = k) (t : ByteArray) : addT (L.take (k + 1)) (T ++ [t]) = addT (L.take k) T ++ [foldS (L.getD k noS) 1 t] := by
  unfold addT
  rw [List.take_add_one, List.getElem?_eq_getElem hk, Option.toList_some, List.zipWith_append (by rw [List.length_take, hT]; omega), List.getD_eq_getElem?_getD, List.getElem?_eq_getElem hk]
  rfl
theorem addT_length (L T : List ByteArray) (h : T.length = L.length) : (addT L T).length = L.length := by unfold addT; rw [List.length_zipWith, h, Nat.min_self]
theorem addT_sizes {n : Nat} : ∀ (L T : List ByteArray), (∀ s ∈ T, s.size = n) → ∀ s ∈ addT L T, s.size = n
  | [], _, _, s, hs => by simp [addT] at hs
  | _ :: _, [], _, s, hs => by simp [addT] at hs
  | a :: L, t :: T, h, s, hs => by
    rcases List.mem_cons.1 (show s ∈ foldS a 1 t :: addT L T from hs) with rfl | h'
    · rw [foldS_size]; exact h t (by simp)
    · exact addT_sizes L T (fun u hu => h u (by simp [hu])) s h'
theorem xor_four (a b c d : Nat) : a ^^^ b ^^^ (c ^^^ d) = a ^^^ c ^^^ (b ^^^ d) := by
  rw [Nat.xor_assoc, Nat.xor_assoc, ← Nat.xor_assoc b c d, Nat.xor_comm b c, Nat.xor_assoc c b d]
theorem xb_add {n i : Nat} (hi : i < n) : ∀ (L T : List ByteArray), T.length = L.length → (∀ s ∈ T, s.size = n) → xb i (addT L T) = xb i L ^^^ xb i T
  | [], [], _, _ => by simp [addT, xb]
  | [], _ :: _, h, _ => by simp at h
  | _ :: _, [], h, _ => by simp at h
  | a :: L, t :: T, h, hs => by
    show bAt (foldS a 1 t) i ^^^ xb i (addT L T) = bAt a i ^^^ xb i L ^^^ (bAt t i ^^^ xb i T)
    rw [xb_add hi L T (by simpa using h) (fun u hu => hs u (by simp [hu])), foldS_at a 1 (by omega) t i (by rw [hs t (by simp)]; exact hi), ml_one_left _ (bAt_lt _ _), xor_four]
theorem qb_add {n i : Nat} (hi : i < n) : ∀ (L T : List ByteArray), T.length = L.length → (∀ s ∈ T, s.size = n) → qb i (addT L T) = qb i L ^^^ qb i T
  | [], [], _, _ => by simp [addT, qb]
  | [], _ :: _, h, _ => by simp at h
  | _ :: _, [], h, _ => by simp at h
  | a :: L, t :: T, h, hs => by
    show bAt (foldS a 1 t) i ^^^ ml 2 (qb i (addT L T)) = bAt a i ^^^ ml 2 (qb i L) ^^^ (bAt t i ^^^ ml 2 (qb i T))
    rw [qb_add hi L T (by simpa using h) (fun u hu => hs u (by simp [hu])), foldS_at a 1 (by omega) t i (by rw [hs t (by simp)]; exact hi), ml_one_left _ (bAt_lt _ _), ml_sum, xor_four]
theorem par_sum {n i : Nat} (hi : i < n) (L T : List ByteArray) (h : T.length = L.length) (hL : ∀ s ∈ L, s.size = n) (hT : ∀ s ∈ T, s.size = n) : bAt (parS n L) (i : Int) ^^^ bAt (parS n T) (i : Int) = bAt (parS n (addT L T)) (i : Int) := by
  rw [par_at n i hi L hL, par_at n i hi T hT, par_at n i hi _ (addT_sizes L T hT), xb_add hi L T h hT]
theorem wgt_sum {n i : Nat} (hi : i < n) (L T : List ByteArray) (h : T.length = L.length) (hT : ∀ s ∈ T, s.size = n) : bAt (wgtS n L) (i : Int) ^^^ bAt (wgtS n T) (i : Int) = bAt (wgtS n (addT L T)) (i : Int) := by
  rw [wgt_at n i hi, wgt_at n i hi, wgt_at n i hi, qb_add hi L T h hT]
/-- the first k bytes of a text, each with that of another. -/
def halfF (s t : ByteArray) (k i : Nat) : Nat := if i < k then bAt s (i : Int) ^^^ bAt t (i : Int) else bAt s (i : Int)
theorem half_zero (s t : ByteArray) : (fun i : Nat => bAt s (i : Int)) = halfF s t 0 := by
  funext i; unfold halfF; rw [if_neg (by omega)]
theorem half_full (s t : ByteArray) (n : Nat) (ht : t.size = n) : bs n (halfF s t n) = foldS s 1 t := by
  unfold foldS
  rw [ht]
  exact bs_congr fun i hi => by unfold halfF; rw [if_pos hi, ml_one_left _ (bAt_lt _ _)]
theorem Byt.congr {W : World} {B n : Nat} {f f' : Nat → Nat} (h : Byt W B n f) (e : ∀ i, i < n → f i = f' i) : Byt W B n f' := ⟨fun i hi => by rw [← e i hi]; exact h.cell i hi, h.free⟩
theorem Byt.step {W : World} {B n : Nat} {s t : ByteArray} {k : Nat} (h : Byt W B n (halfF s t k)) : Byt (W.setCell ⟨B, k, none⟩ (.int .u8 ((bAt s (k : Int) ^^^ bAt t (k : Int) : Nat) : Int))) B n (halfF s t (k + 1)) :=
  (h.set k _).congr fun i _ => by
    unfold halfF
    by_cases h1 : i = k
    · subst h1; rw [if_pos rfl, if_pos (by omega)]
    · rw [if_neg h1]
      by_cases h2 : i < k
      · rw [if_pos h2, if_pos (by omega)]
      · rw [if_neg h2, if_neg (by omega)]

theorem conv60' (W : World) : (convert 40 9 (.slice (some ⟨W.heap.size, 0, none⟩) 60 60)).run Try.prog (W.alloc (.cells (madeCells #[.int .u8 0] 60) 5)) = .ok (.string (zs 60)) (W.alloc (.cells (madeCells #[.int .u8 0] 60) 5)) := by
  have h : (W.alloc (.cells (madeCells #[.int .u8 0] 60) 5)).ownsRow W.heap.size 5 1 (.slice (some ⟨W.heap.size, 0, none⟩) 60 60) 60 (madeCells (Value.int .u8 0).cells (60 * 1)).toList :=
    World.ownsRow_lit W (madeCells #[.int .u8 0] 60) 60 (Nat.le_refl _) (by unfold maxLen; omega) (by simp [madeCells])
  exact made_text (P := Try.prog) 40 9 Try.underlying40 Try.underlying5 Try.underlying9 h

/-! ### two appends in one statement, whatever is done first -/
theorem app_step {ops : Array Oper} {o : Oper} {a : Act} {K : Act → World → Prop} {Q : Exit → Act → World → Prop} {E : Prop} (hgd : o.guard = none) (s x : Operand)
    (ho : o.op = .call { callee := .builtin .append, args := #[s, x], argTypes := #[22, 22] })
    {W0 W : World} {base : Nat} {v : Value} {k : Nat} {xs : List Value} (h0 : W0.ownsRow base 9 1 v k xs) (kp : Kp W0 W) (hs : a.eval s = v) (h : Nat) (t : ByteArray) (hx : a.eval x = .slice (some ⟨h, 0, none⟩) 1 1)
    (hc : W.cell? ⟨h, 0, none⟩ = some (.string t)) (hk : k ≤ 100) (hb : base ≤ W0.heap.size)
    (cont : ∀ g cap w', w'.ownsRow base 9 1 (.slice (some ⟨g, 0, none⟩) (k + 1) cap) (k + 1) (xs ++ [.string t]) → W.grownBy w' v.ownBlock → (v.ownBlock = some g ∨ g = W.heap.size) → g < w'.heap.size → K (a.put o.dst (.slice (some ⟨g, 0, none⟩) (k + 1) cap)) w') :
    if Region.wanted o (yielded ops a.tmps) = true then Oper.wp Try.prog o a W K Q else E := by
  obtain ⟨i0, hi, hz0, hz1, hz2⟩ := info_parts info_str
  exact step_append_lies W hgd s x 22 ho base 9 i0 (.string ByteArray.empty) 1 16 Try.underlying22 hi hz0 hz1 hz2 rfl (by decide) v k xs hs (kp.own h0) ⟨h, 0, none⟩ 1 1 [.string t] hx rfl
    (fun j u hj => by
      match j, hj with
      | 0, hj => simp at hj; subst hj; simpa [Addr.add] using hc)
    (fun u hu => by simp at hu; subst hu; rfl) (by omega) (by unfold maxLen; omega) (by omega) (Nat.le_trans hb kp.size) W.heap.size rfl cont
theorem apart_of {u6 u7 : Value} {g : Nat} (d1 : ∀ x, u6.ownBlock = some x → u7.ownBlock ≠ some x ∧ x ≠ g) : u7.ownBlock = none ∨ u7.ownBlock ≠ u6.ownBlock := by
  cases h : u7.ownBlock with
  | none => exact .inl rfl
  | some y => exact .inr fun e => (d1 y e.symm).1 h
theorem after1 {w w6 W w7 : World} {e : TypeId} {u6 u7 : Value} {g g1 B n k len cp : Nat} {f : Nat → Nat} {xs ys ls : List Value} (hk : Kp w6 W) (hg : W.grownBy w7 u6.ownBlock) (hat : u6.ownBlock = some g1 ∨ g1 = W.heap.size) (K6 : Kp w w6)
    (r1 : w6.ownsRow w.heap.size e 1 u6 k xs) (r2 : w6.ownsRow w.heap.size e 1 u7 k ys) (r3 : w6.ownsRow w.heap.size e 1 (.slice (some ⟨g, 0, none⟩) len cp) len ls)
    (d1 : ∀ x, u6.ownBlock = some x → u7.ownBlock ≠ some x ∧ x ≠ g) (hB : Byt w6 B n f) (hBl : B < w6.heap.size) (b1 : ∀ z, u6.ownBlock = some z → z < B) :
    w7.ownsRow w.heap.size e 1 u7 k ys ∧ w7.ownsRow w.heap.size e 1 (.slice (some ⟨g, 0, none⟩) len cp) len ls ∧ Byt w7 B n f ∧ Kp w w7 ∧ (∀ z u, w6.heap.size ≤ z → W.cell? ⟨z, 0, none⟩ = some u → w7.cell? ⟨z, 0, none⟩ = some u) ∧ u7.ownBlock ≠ some g1 ∧ g1 ≠ g := by
  have hsz := hk.size
  have hBW := hB.kept hk hBl
  have hBne : some B ≠ u6.ownBlock := fun h => by have := b1 B h.symm; omega
  refine ⟨(hk.own r2).kept hg (apart_of d1), (hk.own r3).kept hg (.inr fun h => (d1 g h.symm).2 rfl), ⟨fun i hi => ?_, fun i hi => ?_⟩, (K6.trans hk).grown hg (own_lt r1), fun z u hz hc => ?_, ?_, ?_⟩
  · exact (hg.cell_far ⟨B, i, none⟩ (show B < _ by omega) hBne).trans (hBW.cell i hi)
  · exact (hg.frozen_far ⟨B, i, none⟩ (show B < _ by omega) hBne).trans (hBW.free i hi)
  · exact (hg.cell_far ⟨z, 0, none⟩ (World.block_lt_of_cell? W ⟨z, 0, none⟩ hc) (fun h => by have := b1 z h.symm; omega)).trans hc
  · rcases hat with h | h
    · exact (d1 g1 h).1
    · intro h'
      have := (r2.lt g1 h').2
      omega
  · rcases hat with h | h
    · exact (d1 g1 h).2
    · intro h'
      have := (r3.lt g rfl).2
      omega
theorem after2 {w w7 W w8 : World} {e : TypeId} {u7 : Value} {g g1 g2 c1 k len cp : Nat} {xs ys ls : List Value} (hk : Kp w7 W) (hg : W.grownBy w8 u7.ownBlock) (hat : u7.ownBlock = some g2 ∨ g2 = W.heap.size) (K7 : Kp w w7)
    (s1 : w7.ownsRow w.heap.size e 1 (.slice (some ⟨g1, 0, none⟩) (k + 1) c1) (k + 1) xs) (s2 : w7.ownsRow w.heap.size e 1 u7 k ys) (s3 : w7.ownsRow w.heap.size e 1 (.slice (some ⟨g, 0, none⟩) len cp) len ls) (e1 : u7.ownBlock ≠ some g1) (d2 : u7.ownBlock ≠ some g) :
    w8.ownsRow w.heap.size e 1 (.slice (some ⟨g1, 0, none⟩) (k + 1) c1) (k + 1) xs ∧ w8.ownsRow w.heap.size e 1 (.slice (some ⟨g, 0, none⟩) len cp) len ls ∧ Kp w w8 ∧ g1 ≠ g2 ∧ g2 ≠ g := by
  have hsz := hk.size
  refine ⟨(hk.own s1).kept hg (.inr fun h => e1 h.symm), (hk.own s3).kept hg (.inr fun h => d2 h.symm), (K7.trans hk).grown hg (own_lt s2), ?_, ?_⟩
  · rintro rfl
    rcases hat with h | h
    · exact e1 h
    · have := (s1.lt g1 rfl).2
      omega
  · rintro rfl
    rcases hat with h | h
    · exact d2 h
    · have := (s3.lt g2 rfl).2
      omega
theorem apart_mk {g g1 g2 k c1 c2 : Nat} (f : g1 ≠ g2) (e : g1 ≠ g) : ∀ x, (Value.slice (some ⟨g1, 0, none⟩) k c1).ownBlock = some x → (Value.slice (some ⟨g2, 0, none⟩) k c2).ownBlock ≠ some x ∧ x ≠ g := fun x hx => by
  obtain rfl : g1 = x := Option.some.inj hx
  exact ⟨fun h => f (Option.some.inj h).symm, e⟩
theorem apart_mk2 {g g2 k c2 : Nat} (f : g2 ≠ g) : (Value.slice (some ⟨g2, 0, none⟩) k c2).ownBlock ≠ some g := fun h => f (Option.some.inj h)
theorem snoc_sizes {n : Nat} {T : List ByteArray} {t : ByteArray} (h : ∀ s ∈ T, s.size = n) (ht : t.size = n) : ∀ s ∈ T ++ [t], s.size = n := fun s hs => by
  rcases List.mem_append.1 hs with h' | h'
  · exact h s h'
  · rw [List.mem_singleton.1 h']; exact ht

end Go.Proofs.Ytjjghmdkpcbamaa
