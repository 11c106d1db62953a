/-
  What RowTwo wants besides: rows that are whole, columns read alone, how many members are dead, a list of lists of texts of the call's own. No condition.
-/
import Derived.Test.YtonooelffokfkaaGreatDoorZRwMap
namespace Go.Proofs.YtonooelffokfkaaGreatDoor
open Go.RowKit Plain
set_option linter.unusedVariables false

theorem filt_one (m : Nat) (dd : Nat → Bool) : ∀ N, ((List.range N).filter fun i => if i = m then true else dd i).length = ((List.range N).filter dd).length + (if m < N ∧ dd m = false then 1 else 0)
  | 0 => by simp
  | N + 1 => by
    have ih := filt_one m dd N
    rw [List.range_succ, List.filter_append, List.filter_append, List.length_append, List.length_append, ih]
    by_cases e : N = m
    · subst e
      rw [if_neg (show ¬ (N < N ∧ dd N = false) from fun h => absurd h.1 (by omega))]
      cases hd : dd N with
      | true => simp [hd]
      | false => simp [hd]
    · have hlt : (m < N + 1 ∧ dd m = false) ↔ (m < N ∧ dd m = false) := ⟨fun h => ⟨by omega, h.2⟩, fun h => ⟨by omega, h.2⟩⟩
      have e2 : (List.filter (fun i => if i = m then true else dd i) [N]).length = (List.filter dd [N]).length := by
        rw [List.filter_cons, List.filter_cons, if_neg e]
        cases dd N <;> simp
      rw [e2]
      by_cases h : m < N ∧ dd m = false
      · rw [if_pos h, if_pos (hlt.2 h)]; omega
      · rw [if_neg h, if_neg (fun hh => h (hlt.1 hh))]; omega
section
variable {N S : Nat} {at_ : Nat → Nat} {L : LB} {B : BS} {dd : Nat → Bool}
theorem Arr.count (h : Arr N S at_ L B dd) {t : Nat} (ht : t < S) (m : Nat) (hm : m < N) : (goN N t (fun i => if i = m then true else dd i)).length = (goN N t dd).length + (if dd m = true then 0 else 1) := by
  have h6 := h.s6
  rw [goN_len h.h4 h.h8 (by omega), goN_len h.h4 h.h8 (by omega), filt_one]
  cases dd m <;> simp [hm]
/-- all are alive: the row is whole. -/
theorem Arr.fit (h : Arr N S at_ L B (fun _ => false)) {t : Nat} (ht : t < S) : wlB B L t = true := by
  have h4 := h.h4
  have h8 := h.h8
  have hN : L.n.toNat = N := by rw [h.n]; omega
  have hG : ldG B L t = [] := by
    rw [h.lost ht]
    have : goN N t (fun _ => false) = [] := by unfold goN; simp
    rw [this]; rfl
  have hi : ∀ c, c < N → Go.Proofs.YtonooelffokfkaaGreatDoor.isG [] c = (fun _ => false) (mM N t c).toNat := fun c _ => by unfold Go.Proofs.YtonooelffokfkaaGreatDoor.isG hasB inL; simp
  have hro : roE B L.n t [] L.n.toNat = 0 := by rw [hN, h.n]; exact h.ro ht [] hi N (Nat.le_refl _)
  rw [wl_4 (h.ls ht) hG hro]
  have hA : wlA B L.n t L.n.toNat = clL at_ N t := by
    unfold wlA
    rw [hN, h.n]
    refine list_eq (by rw [roK_len, cl_len _ _ _ (by omega)]) fun c hc => ?_
    rw [roK_len] at hc
    rw [roK_at _ _ _ _ _ _ _ hc]
    unfold roC
    rw [if_pos ⟨hc, hi c hc⟩]
    exact (h.rd ht c hc rfl).2
  rw [hA, hN]
  unfold wlF
  have hd := da_len at_ N t (N - 2)
  have e1 : (clL at_ N t).take (N - 2) = daL at_ N t (N - 2) := by
    unfold clL
    rw [List.take_append_of_le_length (by rw [hd]; omega), List.take_of_length_le (by rw [hd]; omega)]
  have e2 : (clL at_ N t).getD (N - 2) noS = parS 64 (daL at_ N t (N - 2)) := by
    unfold clL
    rw [List.getD_eq_getElem?_getD, List.getElem?_append_right (by rw [hd]; omega), hd]
    simp
  have e3 : (clL at_ N t).getD (N - 2 + 1) noS = wgtS 64 (daL at_ N t (N - 2)) := by
    unfold clL
    rw [List.getD_eq_getElem?_getD, List.getElem?_append_right (by rw [hd]; omega), hd]
    simp
  rw [e1, e2, e3]
  obtain ⟨m1, m2, m3⟩ := mk_all (n := 64) (l := daL at_ N t (N - 2)) (by rw [hd]; omega) (by rw [hd]; omega) (by omega) (da_sz at_ N t (N - 2))
  unfold fitsB
  rw [m1, m2, m3]
  simp
/-- a data column, read alone or brought back. -/
theorem Arr.one (h : Arr N S at_ L B dd) {t : Nat} (ht : t < S) {c : Nat} (hc : c < N - 2) (hg : (goN N t dd).length ≤ 2 ∨ dd (mM N t c).toNat = false) : onE B L t c = 0 ∧ onT B L t c = (clL at_ N t).getD c noS ∧ (∀ cnt, onN B L t c cnt = cnt ∨ ∃ j, j < 8 ∧ onN B L t c cnt = upL5 cnt j) := by
  have h4 := h.h4
  have h8 := h.h8
  have hcr : 0 ≤ (c : Int) ∧ (c : Int) < L.n - 2 := ⟨by omega, by rw [h.n]; omega⟩
  have hct : (ldG B L t).contains (c : Int) = dd (mM N t c).toNat := by
    rw [← h.isG ht c (by omega)]
    unfold Go.Proofs.YtonooelffokfkaaGreatDoor.isG hasB inL
    rw [decide_eq_true (by omega), Bool.true_and, Int.toNat_natCast]
    induction ldG B L t with
    | nil => rfl
    | cons x l ih =>
      rw [List.contains_cons, List.any_cons, ih]
      congr 1
      by_cases e : x = (c : Int)
      · subst e; simp
      · rw [beq_eq_false_iff_ne.2 e, beq_eq_false_iff_ne.2 (fun hh => e hh.symm)]
  cases hd : dd (mM N t c).toNat with
  | false =>
    obtain ⟨o1, o2, o3⟩ := on_3 (B := B) (h.ls ht) hcr (by rw [hct]; exact hd)
    have hm := mem_ok (n := L.n) (s := L.s) (t := t) (c := c) ((lg_iff L).1 h.good).1 ⟨by omega, by rw [h.s]; omega⟩ ⟨by omega, by rw [h.n]; omega⟩
    rw [o1, o2]
    unfold reE reT
    rw [hm, if_pos rfl, if_pos rfl, h.n]
    exact ⟨(h.rd ht c (by omega) hd).1, (h.rd ht c (by omega) hd).2, fun cnt => .inl (o3 cnt)⟩
  | true =>
    have hg2 : (goN N t dd).length ≤ 2 := hg.elim id (fun h => by rw [hd] at h; cases h)
    obtain ⟨o1, o2, o3⟩ := on_4 (B := B) (h.ls ht) hcr (by rw [hct]; exact hd)
    obtain ⟨l1, l2, l3, l4, l5⟩ := h.load ht hg2
    rw [o1, o2, l1, l2, Int.toNat_natCast]
    exact ⟨rfl, rfl, fun cnt => .inr ⟨_, kdN_lt _ _, by rw [o3, l5]⟩⟩
end
theorem StrsIn.sp {w w' : World} {x : Value} {l : List ByteArray} {F : List Nat} (h : StrsIn w x l) (k : Sp F w w') (hq : ∀ q, x.ownBlock = Option.some q → q ∉ F) : StrsIn w' x l := by
  cases h with
  | empty a cap h => exact .empty a cap h
  | some b off cap l h0 h1 h2 hc => exact .some b off cap l h0 h1 h2 (fun i hi => k.held (hc i hi) (hq b rfl))
theorem StrsIn.lt {w : World} {x : Value} {l : List ByteArray} (h : StrsIn w x l) (hl : 0 < l.length) : ∀ q, x.ownBlock = Option.some q → q < w.heap.size := fun q hq => by
  cases h with
  | empty a cap h => exact absurd hl (by simp)
  | some b off cap l h0 h1 h2 hc =>
    have : b = q := by injection hq
    subst this
    exact World.block_lt_of_cell? _ _ (hc 0 hl)
/-- a list of rows' columns, of the call's own, apart from F. -/
def Al (w : World) (F : List Nat) (base : Nat) (v : Value) (at_ : Nat → Nat) (N k : Nat) : Prop := ∃ xs : List Value, OR w base 67 v xs ∧ xs.length = k ∧ (∀ q, v.ownBlock = some q → q ∉ F) ∧ ∀ i, i < k → ∃ x, xs[i]? = some x ∧ StrsIn w x (clL at_ N i) ∧ ∀ q, x.ownBlock = some q → q ∉ F ∧ q < w.heap.size ∧ v.ownBlock ≠ some q
theorem Al.sp {w w' : World} {F F' : List Nat} {base : Nat} {v : Value} {at_ : Nat → Nat} {N k : Nat} (h : Al w F base v at_ N k) (s : Sp F w w') (hF : ∀ q, q < w.heap.size → q ∉ F → q ∉ F') : Al w' F' base v at_ N k := by
  obtain ⟨xs, h1, h2, h3, h4⟩ := h
  refine ⟨xs, s.own h1 (fun q hq => h3 q hq), h2, fun q hq => hF q (World.ownsRow.lt h1 q hq).2 (h3 q hq), fun i hi => ?_⟩
  obtain ⟨x, a1, a2, a3⟩ := h4 i hi
  exact ⟨x, a1, a2.sp s (fun q hq => (a3 q hq).1), fun q hq => ⟨hF q (a3 q hq).2.1 (a3 q hq).1, Nat.lt_of_lt_of_le (a3 q hq).2.1 s.size, (a3 q hq).2.2⟩⟩
theorem Al.lt {w : World} {F : List Nat} {base : Nat} {v : Value} {at_ : Nat → Nat} {N k : Nat} (h : Al w F base v at_ N k) : ∀ q, v.ownBlock = some q → base ≤ q ∧ q < w.heap.size ∧ q ∉ F := fun q hq => by
  obtain ⟨xs, h1, h2, h3, h4⟩ := h
  exact ⟨(World.ownsRow.lt h1 q hq).1, (World.ownsRow.lt h1 q hq).2, h3 q hq⟩
theorem Al.kp {w w' : World} {F : List Nat} {base : Nat} {v : Value} {at_ : Nat → Nat} {N k : Nat} (h : Al w F base v at_ N k) (s : Kp w w') : Al w' F base v at_ N k := h.sp (s.sp F) (fun _ _ h => h)
theorem Al.start {w : World} {F : List Nat} {base : Nat} {v : Value} {at_ : Nat → Nat} {N : Nat} (h : OR w base 67 v []) (hv : v.ownBlock = none) : Al w F base v at_ N 0 :=
  ⟨[], h, rfl, fun q hq => by (rw [hv] at hq; cases hq), fun i hi => absurd hi (by omega)⟩
theorem Al.snoc {w1 w2 : World} {F : List Nat} {base : Nat} {v v' x : Value} {xs : List Value} {at_ : Nat → Nat} {N k : Nat} (hF : ∀ q, q ∈ F → q < w1.heap.size)
    (h2 : xs.length = k) (h3 : ∀ q, v.ownBlock = some q → q ∉ F ∧ q < w1.heap.size) (h4 : ∀ i, i < k → ∃ x, xs[i]? = some x ∧ StrsIn w1 x (clL at_ N i) ∧ ∀ q, x.ownBlock = some q → q ∉ F ∧ q < w1.heap.size ∧ v.ownBlock ≠ some q)
    (hx : StrsIn w1 x (clL at_ N k)) (hq : ∀ q, x.ownBlock = some q → q ∉ F ∧ q < w1.heap.size ∧ v.ownBlock ≠ some q)
    (ho : OR w2 base 67 v' (xs ++ [x])) (hg : w1.grownBy w2 v.ownBlock) (hv : v'.ownBlock = v.ownBlock ∨ v'.ownBlock = some w1.heap.size) : Al w2 F base v' at_ N (k + 1) := by
  have hsp : ∀ {y l}, StrsIn w1 y l → (∀ q, y.ownBlock = some q → v.ownBlock ≠ some q) → StrsIn w2 y l := fun {y l} a b => a.sp (Sp.grown hg) (fun q e hm => b q e (by
    cases hb : v.ownBlock with
    | none => rw [hb] at hm; cases hm
    | some z => rw [hb] at hm; simp at hm; rw [hm]))
  have hne : ∀ q, q < w1.heap.size → v.ownBlock ≠ some q → v'.ownBlock ≠ some q := fun q a b e => by
    rcases hv with hv | hv
    · exact b (hv ▸ e)
    · rw [hv] at e; simp at e; omega
  refine ⟨_, ho, by simp [h2], fun q e => ?_, fun i hi => ?_⟩
  · rcases hv with hv | hv
    · exact (h3 q (hv ▸ e)).1
    · rw [hv] at e; simp at e; subst e; exact fun hm => by have := hF _ hm; omega
  · by_cases e : i < k
    · obtain ⟨y, a1, a2, a3⟩ := h4 i e
      exact ⟨y, by rw [List.getElem?_append_left (by omega)]; exact a1, hsp a2 (fun q e => (a3 q e).2.2), fun q e => ⟨(a3 q e).1, Nat.lt_of_lt_of_le (a3 q e).2.1 hg.size, hne q (a3 q e).2.1 (a3 q e).2.2⟩⟩
    · obtain rfl : i = k := by omega
      exact ⟨x, by rw [List.getElem?_append_right (by omega), h2]; simp, hsp hx (fun q e => (hq q e).2.2), fun q e => ⟨(hq q e).1, Nat.lt_of_lt_of_le (hq q e).2.1 hg.size, hne q (hq q e).2.1 (hq q e).2.2⟩⟩

end Go.Proofs.YtonooelffokfkaaGreatDoor
