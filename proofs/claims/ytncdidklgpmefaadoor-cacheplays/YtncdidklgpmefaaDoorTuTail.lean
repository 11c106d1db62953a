/-
  A region that draws its order, whose last operations wait for all the first ones: what the first ones come to in a class of worlds, then the last ones. No condition but closed facts on the region.
-/
import Derived.Test.YtncdidklgpmefaaDoorTuUse
import Derived.Deep.Quiet
import Derived.BigQuiet
namespace Go.Proofs.YtncdidklgpmefaaDoor
open Go.RowKit

def bindsOn (x : Oper) (j : Nat) : Bool := x.after.any fun e => Region.binds .any e && e.on == j
/-- guards look at the first ones; each waits for earlier ones alone; each but the last of the first ones is waited for by a later one of them; each of the last ones waits for the last of the first ones, or a later one. -/
def preB (l1 l2 : List Oper) : Bool :=
  l1.all (fun x => match x.guard with | some g => decide (g.1 < l1.length) | none => true) &&
  (List.range l1.length).all (fun j => match l1[j]? with | some x => x.after.all fun e => decide (e.on < j) | none => true) &&
  (List.range (l1.length - 1)).all (fun j => (List.range l1.length).any fun i => decide (j < i) && (match l1[i]? with | some x => bindsOn x j | none => false)) &&
  (List.range l2.length).all (fun k => match l2[k]? with | some x => x.after.any (fun e => Region.binds .any e && decide (l1.length ≤ e.on + 1) && decide (e.on < l1.length + k)) | none => true)
theorem yielded_pre {l1 l2 : List Oper} (t : Array Value) {j : Nat} (h : j < l1.length) : yielded (l1 ++ l2).toArray t j = yielded l1.toArray t j := by
  unfold yielded
  rw [show (l1 ++ l2).toArray[j]? = l1.toArray[j]? by simp [List.getElem?_append_left h]]
theorem wanted_pre {l1 l2 : List Oper} (t : Array Value) {x : Oper} (h : (match x.guard with | some g => decide (g.1 < l1.length) | none => true) = true) : Region.wanted x (yielded (l1 ++ l2).toArray t) = Region.wanted x (yielded l1.toArray t) := by
  unfold Region.wanted
  cases hg : x.guard with
  | none => rfl
  | some g =>
    rw [hg] at h
    obtain ⟨g1, g2⟩ := g
    have h2 : g1 < l1.length := by simpa using h
    simp only [yielded_pre t h2]
def extL (L : Array Bool) (n : Nat) : Array Bool := (L.toList ++ List.replicate n false).toArray
theorem ext_head (L : Array Bool) (n : Nat) (b : Bool) (i : Nat) (h : i < L.size) : (extL L n).getD i b = L.getD i b := by
  unfold extL
  rw [Array.getD_eq_getD_getElem?, Array.getD_eq_getD_getElem?]
  simp [List.getElem?_append_left (show i < L.toList.length by simpa using h)]
theorem ext_tail (L : Array Bool) (n : Nat) (i : Nat) (h : L.size ≤ i) : (extL L n).getD i false = false := by
  unfold extL
  rw [Array.getD_eq_getD_getElem?]
  simp only [List.getElem?_toArray]
  rw [List.getElem?_append_right (by simpa using h), List.getElem?_replicate]
  split <;> rfl
theorem ext_over (L : Array Bool) (n : Nat) (i : Nat) (h : L.size + n ≤ i) : (extL L n).getD i true = true := by
  unfold extL
  rw [Array.getD_eq_getD_getElem?]
  simp only [List.getElem?_toArray]
  rw [List.getElem?_eq_none (by simp; omega)]
  rfl
theorem ext_set (L : Array Bool) (n i : Nat) (h : i < L.size) : (extL L n).setIfInBounds i true = extL (L.setIfInBounds i true) n := by
  unfold extL
  apply Array.ext_getElem?
  intro j
  simp only [List.setIfInBounds_toArray, Array.toList_setIfInBounds, List.getElem?_toArray]
  rw [List.set_append_left _ _ (by simpa using h)]

def leftN (L : Array Bool) : Nat := L.toList.count false
theorem leftN_zero {L : Array Bool} (h : leftN L = 0) (i : Nat) (hi : i < L.size) (b : Bool) : L.getD i b = true := by
  unfold leftN at h
  rw [List.count_eq_zero] at h
  rw [Array.getD_eq_getD_getElem?, Array.getElem?_eq_getElem hi]
  cases e : L[i] with
  | true => rfl
  | false => exact absurd (by rw [← e]; simp) h
theorem leftN_pos {L : Array Bool} (h : 0 < leftN L) : ∃ m, m < L.size ∧ L.getD m true = false ∧ ∀ i, i < m → L.getD i false = true := by
  unfold leftN at h
  obtain ⟨m, hm, h1⟩ := List.getElem_of_mem (List.count_pos_iff.1 h)
  have key : ∀ k, (∃ m, m < k ∧ m < L.size ∧ L.getD m true = false) → ∃ m, m < L.size ∧ L.getD m true = false ∧ ∀ i, i < m → L.getD i false = true := by
    intro k
    induction k with
    | zero => rintro ⟨m, h, _⟩; omega
    | succ k ih =>
      rintro ⟨m, h1, h2, h3⟩
      by_cases hx : ∃ m, m < k ∧ m < L.size ∧ L.getD m true = false
      · exact ih hx
      · refine ⟨m, h2, h3, fun i hi => ?_⟩
        have hi2 : i < L.size := by omega
        cases e : L[i] with
        | true => rw [Array.getD_eq_getD_getElem?, Array.getElem?_eq_getElem hi2, e]; rfl
        | false => exact absurd ⟨i, by omega, hi2, by rw [Array.getD_eq_getD_getElem?, Array.getElem?_eq_getElem hi2, e]; rfl⟩ hx
  have hm2 : m < L.size := by simpa using hm
  exact key (m + 1) ⟨m, by omega, hm2, by rw [Array.getD_eq_getD_getElem?, Array.getElem?_eq_getElem hm2]; simpa using h1⟩
theorem leftN_set {L : Array Bool} {i : Nat} (hi : i < L.size) (h : L.getD i true = false) : leftN (L.setIfInBounds i true) + 1 = leftN L := by
  have h1 : L[i] = false := by
    rw [Array.getD_eq_getD_getElem?, Array.getElem?_eq_getElem hi] at h
    simpa using h
  have hp : 0 < L.toList.count false := List.count_pos_iff.2 (by rw [← h1]; simp)
  unfold leftN
  have h2 : L.toList[i]'(by simpa using hi) = false := by simpa using h1
  rw [Array.toList_setIfInBounds, List.count_set (by simpa using hi), h2]
  show L.toList.count false - 1 + 0 + 1 = L.toList.count false
  omega
/-- what has come up waits for nothing. -/
def Clo (l : List Oper) (L : Array Bool) : Prop := ∀ i x, l[i]? = some x → L.getD i false = true → ∀ e ∈ x.after, Region.binds .any e = true → L.getD e.on false = true

theorem any_pre {P : Program} {l1 l2 : List Oper} {C : World → Prop} {Q : Exit → Act → World → Prop} {Qa : Act → Prop} (hB : preB l1 l2 = true)
    (hQ : ∀ a w L, C w → Qa a → L.size = l1.length → (∀ i, i < l1.length → ∀ b, L.getD i b = true) → wpAny P .any (l1 ++ l2).toArray Q l2.length (extL L l2.length) a w) :
    ∀ (f : Nat) (L : Array Bool) (a : Act) (w : World), C w → L.size = l1.length → leftN L = f → Clo l1 L → wpAnyQ P .any l1.toArray C Qa f L a → wpAny P .any (l1 ++ l2).toArray Q (f + l2.length) (extL L l2.length) a w := by
  unfold preB at hB
  simp only [Bool.and_eq_true, List.all_eq_true, List.mem_range] at hB
  obtain ⟨⟨⟨hgd, hbk⟩, hA⟩, hBt⟩ := hB
  have hat : ∀ j, j < l1.length → (l1 ++ l2).toArray[j]? = l1[j]? := fun j hj => by simp [List.getElem?_append_left hj]
  have hbk2 : ∀ (j : Nat) (x : Oper), l1[j]? = some x → ∀ e ∈ x.after, e.on < j := fun j x hx e he => by
    have hj : j < l1.length := (List.getElem?_eq_some_iff.1 hx).1
    have := hbk j hj
    rw [hx] at this
    exact of_decide_eq_true (Array.all_eq_true_iff_forall_mem.1 this e he)
  intro f
  induction f with
  | zero =>
    intro L a w hw hL hf hC h
    rw [Nat.zero_add]
    exact hQ a w L hw h.2 hL (fun i hi b => leftN_zero hf i (by omega) b)
  | succ f ih =>
    intro L a w hw hL hf hC h
    obtain ⟨m, hm, hm1, hm2⟩ := leftN_pos (L := L) (by omega)
    have hml : m < l1.length := by omega
    have hr : m ∈ Region.ready .any (l1 ++ l2).toArray (extL L l2.length) := by
      rw [mem_ready]
      refine ⟨by rw [ext_head L _ true m hm]; exact hm1, l1[m], by rw [hat m hml]; exact List.getElem?_eq_getElem hml, fun e he _ => ?_⟩
      have := hbk2 m _ (List.getElem?_eq_getElem hml) e he
      rw [ext_head L _ false e.on (by omega)]
      exact hm2 _ this
    rw [show f + 1 + l2.length = (f + l2.length) + 1 by omega]
    refine ⟨fun h0 => (by rw [h0] at hr; cases hr), fun i hi => ?_⟩
    obtain ⟨h1, x, hx, hall⟩ := mem_ready.1 hi
    have hil : i < l1.length := by
      by_cases hlt : i < l1.length
      · exact hlt
      · exfalso
        have hx2 : l2[i - l1.length]? = some x := by
          have : (l1 ++ l2)[i]? = some x := by simpa using hx
          rwa [List.getElem?_append_right (by omega)] at this
        have hk : i - l1.length < l2.length := (List.getElem?_eq_some_iff.1 hx2).1
        have := hBt (i - l1.length) hk
        rw [hx2] at this
        obtain ⟨e, he, hb⟩ := Array.any_eq_true'.1 this
        simp only [Bool.and_eq_true, decide_eq_true_eq] at hb
        obtain ⟨⟨hb1, hb2⟩, hb3⟩ := hb
        have h3 := hall e he hb1
        by_cases hel : e.on < L.size
        · rw [ext_head L _ false e.on hel] at h3
          -- the last of the first ones has come up: so all have
          have hlast : e.on = l1.length - 1 := by omega
          have hdown : ∀ d j, j + d = l1.length - 1 → L.getD j false = true := by
            intro d
            induction d using Nat.strongRecOn with
            | ind d ihd =>
              intro j hj
              by_cases hd0 : d = 0
              · have : j = e.on := by omega
                rw [this]; exact h3
              · have hjA := hA j (by omega)
                obtain ⟨i2, hi2, hb4⟩ := List.any_eq_true.1 hjA
                rw [List.mem_range] at hi2
                simp only [Bool.and_eq_true, decide_eq_true_eq] at hb4
                obtain ⟨hb5, hb6⟩ := hb4
                cases hx3 : l1[i2]? with
                | none => rw [hx3] at hb6; cases hb6
                | some x3 =>
                  rw [hx3] at hb6
                  obtain ⟨e3, he3, hb7⟩ := Array.any_eq_true'.1 (show bindsOn x3 j = true from hb6)
                  simp only [Bool.and_eq_true, beq_iff_eq] at hb7
                  have h4 := ihd (l1.length - 1 - i2) (by omega) i2 (by omega)
                  have h5 := hC i2 x3 hx3 h4 e3 he3 hb7.1
                  rw [hb7.2] at h5
                  exact h5
          have h6 := hdown (l1.length - 1 - m) m (by omega)
          rw [Array.getD_eq_getD_getElem?, Array.getElem?_eq_getElem hm] at h6 hm1
          simp at h6 hm1
          rw [h6] at hm1; cases hm1
        · rw [ext_tail L _ e.on (by omega)] at h3; cases h3
    rw [hat i hil] at hx
    rw [ext_head L _ true i (by omega)] at h1
    have hall2 : ∀ e ∈ x.after, Region.binds .any e = true → L.getD e.on false = true := fun e he hb => by
      have h3 := hall e he hb
      have := hbk2 i x hx e he
      rw [ext_head L _ false e.on (by omega)] at h3
      exact h3
    have hri : i ∈ Region.ready .any l1.toArray L := by
      rw [mem_ready]
      exact ⟨h1, x, by simpa using hx, hall2⟩
    have hq := h.2 i hri
    have hgx := hgd x (List.mem_of_getElem? hx)
    have hC2 : Clo l1 (L.setIfInBounds i true) := fun i' x' hx' h2 e he hb => by
      have hi'L : i' < L.size := by rw [hL]; exact (List.getElem?_eq_some_iff.1 hx').1
      have heL : e.on < L.size := by have := hbk2 i' x' hx' e he; omega
      have hkeep : ∀ j, j < L.size → L.getD j false = true → (L.setIfInBounds i true).getD j false = true := fun j hj hjt => by
        rw [Array.getD_eq_getD_getElem?, Array.getElem?_setIfInBounds]
        by_cases e0 : i = j
        · rw [if_pos e0, if_pos (by omega)]; rfl
        · rw [if_neg e0, ← Array.getD_eq_getD_getElem?]; exact hjt
      by_cases e0 : i = i'
      · subst e0
        rw [hx] at hx'
        obtain rfl := Option.some.inj hx'
        exact hkeep _ heL (hall2 e he hb)
      · rw [Array.getD_eq_getD_getElem?, Array.getElem?_setIfInBounds, if_neg e0, ← Array.getD_eq_getD_getElem?] at h2
        exact hkeep _ heL (hC i' x' hx' h2 e he hb)
    have hnext : ∀ a' w', C w' → wpAnyQ P .any l1.toArray C Qa f (L.setIfInBounds i true) a' → wpAny P .any (l1 ++ l2).toArray Q (f + l2.length) ((extL L l2.length).setIfInBounds i true) a' w' := fun a' w' hw' hK => by
      rw [ext_set L _ i (by omega)]
      exact ih _ a' w' hw' (by rw [Array.size_setIfInBounds]; exact hL) (by have := leftN_set (L := L) (i := i) (by omega) h1; omega) hC2 hK
    unfold qOp at hq
    unfold wpOp
    rw [show l1.toArray[i]? = some x by simpa using hx] at hq
    rw [show (l1 ++ l2).toArray[i]? = some x by rw [hat i hil]; exact hx]
    have hwp := wanted_pre (l1 := l1) (l2 := l2) a.tmps hgx
    by_cases hwn : Region.wanted x (yielded l1.toArray a.tmps) = true
    · simp only [hwp, hwn, if_true] at hq ⊢
      exact .inl (Oper.wp_of_quiet hw (fun a' w' hw' hK => hnext a' w' hw' hK) hq)
    · simp only [hwp, hwn] at hq ⊢
      exact hnext _ w hw hq

/-- the region's law. -/
theorem wp_region_pre {P : Program} {id : Nat} {Q : Exit → Act → World → Prop} {a : Act} {w : World} (l : List Oper) (n : Nat) (hm : P.follows .mixedOrders = true) (hX : Region.lexB .any (l.take n).toArray = true) (hB : preB (l.take n) (l.drop n) = true)
    (h : wpQuiet P (l.take n).toArray (fun w' => ∃ p, w' = kpw w p) (fun a' => ∀ w', (∃ p, w' = kpw w p) → wpAny P .any l.toArray Q (l.drop n).length (List.replicate (l.take n).length true ++ List.replicate (l.drop n).length false).toArray a' w') (l.take n) a) : (Code.region id l.toArray true).wp P Q a w := by
  obtain ⟨l1, h1⟩ : ∃ l1, l1 = l.take n := ⟨_, rfl⟩
  obtain ⟨l2, h2⟩ : ∃ l2, l2 = l.drop n := ⟨_, rfl⟩
  have hl : l = l1 ++ l2 := by rw [h1, h2, List.take_append_drop]
  rw [← h1] at hX hB h
  rw [← h2] at hB h
  rw [hl] at h ⊢
  clear h1 h2 hl
  refine wp_region_any hm ?_
  simp only [Region.lexB, Bool.and_eq_true] at hX
  have H := wpAnyQ_lex (C := fun w' => ∃ p, w' = kpw w p) (md := .any) hX.1 l1 0 (Array.replicate l1.toArray.size false) a (by simp) (by simpa using hX.2) h
  have := any_pre (P := P) (Q := Q) (C := fun w' => ∃ p, w' = kpw w p) (Qa := fun a' => ∀ w', (∃ p, w' = kpw w p) → wpAny P .any (l1 ++ l2).toArray Q l2.length (List.replicate l1.length true ++ List.replicate l2.length false).toArray a' w') hB (fun a w L hw h hL hall => by
    have e : extL L l2.length = (List.replicate l1.length true ++ List.replicate l2.length false).toArray := by
      unfold extL
      have : L.toList = List.replicate l1.length true := by
        apply List.ext_getElem?
        intro i
        rw [List.getElem?_replicate]
        by_cases hi : i < l1.length
        · rw [if_pos hi]
          have := hall i hi false
          rw [Array.getD_eq_getD_getElem?, Array.getElem?_eq_getElem (by omega)] at this
          rw [List.getElem?_eq_getElem (by simpa using (by omega : i < L.size))]
          simpa using this
        · rw [if_neg hi, List.getElem?_eq_none (by simp; omega)]
      rw [this]
    rw [e]
    exact h w hw) l1.length (Array.replicate l1.toArray.size false) a w.drew (kpw_of (Kp.refl w).drew) (by simp) (by unfold leftN; simp) (fun i x hx h2 => by
      rw [Array.getD_eq_getD_getElem?, Array.getElem?_replicate] at h2
      split at h2 <;> cases h2) (by simpa using H)
  rw [show (l1 ++ l2).toArray.size = l1.length + l2.length by simp]
  rw [show Array.replicate (l1.length + l2.length) false = extL (Array.replicate l1.toArray.size false) l2.length by
    unfold extL
    apply Array.ext_getElem?
    intro i
    simp [Array.getElem?_replicate]]
  exact this

end Go.Proofs.YtncdidklgpmefaaDoor
