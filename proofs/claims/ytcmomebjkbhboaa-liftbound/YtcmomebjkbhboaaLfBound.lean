/-
  When each key is due (LiftBound), in which order keys are served when none is late (LiftSweeps). Plain facts; no condition.
-/
import Derived.Test.YtcmomebjkbhboaaLfMap
namespace Go.Proofs.Ytcmomebjkbhboaa
open Go.RowKit Plain
set_option linter.unusedVariables false

/-- what the place of a key is, behind a Pick. -/
theorem pk_at {S : LS} {k : Int} (hnd : Nd S.L) (hx : Nx S k) {i : Nat} {x' : Wt} (h : (pkS S k).L[i]? = some x') : ∃ j x, S.L[j]? = some x ∧ x' = incW x ∧ x.k ≠ k ∧ i ≤ j ∧ (S.g ≤ x.n → S.L.Pairwise (fun x y => y.n ≤ x.n) → i + 1 ≤ j) := by
  obtain ⟨⟨y, hy, ey⟩, hlate, _⟩ := hx
  obtain ⟨A, B, hL⟩ := List.append_of_mem hy
  have hd : dlL S.L k = A ++ B := by rw [hL] at hnd ⊢; exact dl_hit hnd ey
  have h1 : ((A ++ B).map incW)[i]? = some x' := by rw [← hd]; exact h
  rw [List.getElem?_map, Option.map_eq_some_iff] at h1
  obtain ⟨x, hx, rfl⟩ := h1
  have hxm : x ∈ dlL S.L k := by rw [hd]; exact List.mem_of_getElem? hx
  have hne : x.k ≠ k := dl_no _ _ x hxm
  by_cases hi : i < A.length
  · rw [List.getElem?_append_left hi] at hx
    refine ⟨i, x, by rw [hL, List.getElem?_append_left hi]; exact hx, rfl, hne, Nat.le_refl _, fun hl ho => ?_⟩
    exfalso
    -- the first one is late, so it is served, and it stands ahead of y
    have hA0 : 0 < A.length := by omega
    have hf : S.L.getD 0 wz = A.getD 0 wz := by rw [hL, List.getD_eq_getElem?_getD, List.getD_eq_getElem?_getD, List.getElem?_append_left hA0]
    have hfm : A.getD 0 wz ∈ A := by rw [List.getD_eq_getElem?_getD, List.getElem?_eq_getElem hA0]; exact List.getElem_mem hA0
    have hxA : x ∈ A := List.mem_of_getElem? hx
    have hfn : x.n ≤ (A.getD 0 wz).n := by
      by_cases h0 : i = 0
      · subst h0
        rw [List.getD_eq_getElem?_getD, hx]
        exact Int.le_refl _
      · rw [hL, List.pairwise_append] at ho
        have h2 := List.pairwise_iff_getElem.1 ho.1 0 i hA0 hi (by omega)
        have e1 : A[i] = x := by rw [List.getElem?_eq_getElem hi] at hx; exact Option.some.inj hx
        rw [e1] at h2
        rw [List.getD_eq_getElem?_getD, List.getElem?_eq_getElem hA0]
        exact h2
    have hk := hlate (by rw [hf]; omega)
    rw [hf] at hk
    rw [hL, Nd, List.pairwise_append] at hnd
    exact hnd.2.2 _ hfm y (by simp) (by rw [← hk, ey])
  · rw [List.getElem?_append_right (by omega)] at hx
    refine ⟨i + 1, x, ?_, rfl, hne, by omega, fun _ _ => Nat.le_refl _⟩
    rw [hL, List.getElem?_append_right (by omega), show i + 1 - A.length = (i - A.length) + 1 by omega, List.getElem?_cons_succ]
    exact hx
/-- a lift and when its keys are due. -/
structure Bd (S : LS) (f : Int → Option Int) (c : Nat) (p ag : Int) : Prop where
  has : ∀ b, (f b).isSome = hsW S.L b
  c : S.L.length = c
  g : S.g = ag
  due : ∀ (i : Nat) x, S.L[i]? = some x → ∃ d, f x.k = some d ∧ p + max (ag - x.n) 0 + (i : Int) + 1 ≤ d
  all : ∀ b d, f b = some d → p + 1 ≤ d
theorem Bd.new (ag : Int) (h : 1 ≤ ag) (h2 : ag ≤ 20) : Bd ⟨[], gA ag, 0⟩ (fun _ => none) 0 0 ag := ⟨fun b => rfl, rfl, by show gA ag = ag; unfold gA; omega, fun i x h => by simp at h, fun b d h => by cases h⟩
theorem Bd.at {S : LS} {f : Int → Option Int} {c : Nat} {p ag : Int} (h : Bd S f c p ag) {k : Int} (hx : Nx S k) : ∃ d, f k = some d ∧ p + 1 ≤ d := by
  obtain ⟨⟨y, hy, rfl⟩, _⟩ := hx
  have h1 := h.has y.k
  rw [(hs_iff _ _).2 ⟨y, hy, rfl⟩] at h1
  obtain ⟨d, hd⟩ := Option.isSome_iff_exists.1 h1
  exact ⟨d, hd, h.all _ _ hd⟩
theorem Bd.pick {S : LS} {f : Int → Option Int} {c : Nat} {p ag m : Int} (h : Bd S f c p ag) (hg : Lg S m) {k : Int} (hx : Nx S k) : Bd (pkS S k) (fun j => if j = k then none else f j) (if (f k).isSome = true then c - 1 else c) (p + 1) ag := by
  have hl := pk_len hg.nd hx
  have hk : (f k).isSome = true := by obtain ⟨d, hd, _⟩ := h.at hx; rw [hd]; rfl
  have hdue : ∀ (i : Nat) x, (pkS S k).L[i]? = some x → ∃ d, (if x.k = k then none else f x.k) = some d ∧ p + 1 + max (ag - x.n) 0 + (i : Int) + 1 ≤ d := fun i x' hi => by
    obtain ⟨j, x, h1, rfl, h3, h4, h5⟩ := pk_at hg.nd hx hi
    obtain ⟨d, hd, hle⟩ := h.due j x h1
    refine ⟨d, by show (if x.k = k then none else f x.k) = some d; rw [if_neg h3]; exact hd, ?_⟩
    show p + 1 + max (ag - (x.n + 1)) 0 + (i : Int) + 1 ≤ d
    have hgg := h.g
    by_cases hlt : S.g ≤ x.n
    · have := h5 hlt hg.o; omega
    · omega
  refine ⟨fun b => ?_, by rw [if_pos hk]; have := h.c; omega, h.g, hdue, fun b d hb => ?_⟩
  · show (if b = k then none else f b).isSome = _
    rw [Bool.eq_iff_iff, hs_iff]
    by_cases e : b = k
    · subst e
      rw [if_pos rfl]
      constructor
      · intro h; cases h
      · rintro ⟨x, hx1, hx2⟩
        obtain ⟨y, h1, h2, rfl⟩ := pk_in.1 hx1
        exact absurd hx2 h2
    · rw [if_neg e, h.has, hs_iff]
      constructor
      · rintro ⟨x, h1, rfl⟩
        exact ⟨incW x, pk_in.2 ⟨x, h1, e, rfl⟩, rfl⟩
      · rintro ⟨x, h1, rfl⟩
        obtain ⟨y, h2, h3, rfl⟩ := pk_in.1 h1
        exact ⟨y, h2, rfl⟩
  · have hb : (if b = k then none else f b) = some d := hb
    by_cases e : b = k
    · rw [if_pos e] at hb; cases hb
    · rw [if_neg e] at hb
      have h1 := h.has b
      rw [hb] at h1
      obtain ⟨x, hx1, rfl⟩ := (hs_iff _ _).1 h1.symm
      obtain ⟨i, hi⟩ := List.mem_iff_getElem?.1 (pk_in.2 ⟨x, hx1, e, rfl⟩ : incW x ∈ (pkS S k).L)
      obtain ⟨d', h2, h3⟩ := hdue i _ hi
      have h2 : (if x.k = k then none else f x.k) = some d' := h2
      rw [if_neg e, hb] at h2
      obtain rfl := Option.some.inj h2
      omega
theorem Bd.add {S : LS} {f : Int → Option Int} {c : Nat} {p ag m : Int} (h : Bd S f c p ag) (hg : Lg S m) {b : Int} (e : adE S b = 0) : Bd (adS S b) (fun j => if j = b then some (p + ag + (S.L.length : Int) + 1) else f j) (if (f b).isSome = true then c else c + 1) p ag := by
  obtain ⟨e1, e2, e3⟩ := ad_iff.1 e
  have hfb : (f b).isSome = false := by rw [h.has, e2]
  have hg1 := hg.g1
  have hgg := h.g
  rw [ad_ok e]
  refine ⟨fun j => ?_, by rw [hfb, if_neg (by decide)]; show (S.L ++ [_]).length = _; rw [List.length_append, h.c]; rfl, h.g, fun i x hi => ?_, fun j d hd => ?_⟩
  · show (if j = b then some _ else f j).isSome = _
    rw [Bool.eq_iff_iff, hs_iff]
    by_cases ej : j = b
    · rw [if_pos ej]
      exact ⟨fun _ => ⟨⟨b, 0⟩, by simp, ej.symm⟩, fun _ => rfl⟩
    · rw [if_neg ej, h.has, hs_iff]
      constructor
      · rintro ⟨x, h1, h2⟩; exact ⟨x, List.mem_append_left _ h1, h2⟩
      · rintro ⟨x, h1, h2⟩
        have h1 : x ∈ S.L ++ [⟨b, 0⟩] := h1
        rcases List.mem_append.1 h1 with h1 | h1
        · exact ⟨x, h1, h2⟩
        · obtain rfl : x = (⟨b, 0⟩ : Wt) := by simpa using h1
          exact absurd h2.symm ej
  · have hi : (S.L ++ [(⟨b, 0⟩ : Wt)])[i]? = some x := hi
    by_cases hil : i < S.L.length
    · rw [List.getElem?_append_left hil] at hi
      obtain ⟨d, hd, hle⟩ := h.due i x hi
      have hne : x.k ≠ b := (hs_not _ _).1 e2 x (List.mem_of_getElem? hi)
      exact ⟨d, by show (if x.k = b then _ else f x.k) = some d; rw [if_neg hne]; exact hd, hle⟩
    · rw [List.getElem?_append_right (by omega)] at hi
      have hi0 : i = S.L.length := by
        have := (List.getElem?_eq_some_iff.1 hi).1
        simp at this
        omega
      subst hi0
      rw [Nat.sub_self] at hi
      obtain rfl : (⟨b, 0⟩ : Wt) = x := by simpa using hi
      refine ⟨_, by show (if b = b then _ else f b) = some _; rw [if_pos rfl], ?_⟩
      show p + max (ag - 0) 0 + (S.L.length : Int) + 1 ≤ p + ag + (S.L.length : Int) + 1
      omega
  · have hd : (if j = b then some (p + ag + (S.L.length : Int) + 1) else f j) = some d := hd
    by_cases ej : j = b
    · rw [if_pos ej] at hd
      obtain rfl := Option.some.inj hd
      omega
    · rw [if_neg ej] at hd
      exact h.all j d hd

/-! ### sweeps -/
/-- keys that wait, none of them late, and the set of them. -/
structure Sw (S : LS) (F : Int → Bool) (c : Nat) : Prop where
  has : ∀ b, F b = hsW S.L b
  c : S.L.length = c
  r : ∀ x ∈ S.L, 0 ≤ x.k ∧ x.k < 1024
  g : S.g = 65536
theorem Sw.new (h : Int) : Sw ⟨[], 65536, h⟩ (fun _ => false) 0 := ⟨fun _ => rfl, rfl, by simp, rfl⟩
theorem Sw.add {S : LS} {F : Int → Bool} {c : Nat} (h : Sw S F c) {b : Int} (hb : 0 ≤ b ∧ b < 1024) (hc : c < 256) : (adE S b = 0 ↔ F b = false) ∧ Sw (adS S b) (fun j => if j = b then true else F j) (if F b = true then c else c + 1) := by
  have hE : adE S b = 0 ↔ F b = false := by
    rw [ad_iff, h.has]
    have := h.c
    exact ⟨fun q => q.2.1, fun q => ⟨by omega, q, by omega⟩⟩
  refine ⟨hE, ?_⟩
  by_cases e : F b = false
  · rw [ad_ok (hE.2 e), e, if_neg (by decide)]
    refine ⟨fun j => ?_, by show (S.L ++ [_]).length = _; rw [List.length_append, h.c]; rfl, fun x hx => ?_, h.g⟩
    · show (if j = b then true else F j) = _
      rw [Bool.eq_iff_iff, hs_iff]
      by_cases ej : j = b
      · rw [if_pos ej]; exact ⟨fun _ => ⟨⟨b, 0⟩, by simp, ej.symm⟩, fun _ => rfl⟩
      · rw [if_neg ej, h.has, hs_iff]
        constructor
        · rintro ⟨x, h1, h2⟩; exact ⟨x, List.mem_append_left _ h1, h2⟩
        · rintro ⟨x, h1, h2⟩
          have h1 : x ∈ S.L ++ [⟨b, 0⟩] := h1
          rcases List.mem_append.1 h1 with h1 | h1
          · exact ⟨x, h1, h2⟩
          · obtain rfl : x = (⟨b, 0⟩ : Wt) := by simpa using h1
            exact absurd h2.symm ej
    · have hx : x ∈ S.L ++ [⟨b, 0⟩] := hx
      rcases List.mem_append.1 hx with hx | hx
      · exact h.r x hx
      · obtain rfl : x = (⟨b, 0⟩ : Wt) := by simpa using hx
        exact hb
  · have e2 : F b = true := by simpa using e
    rw [ad_no (fun q => e (hE.1 q)), e2, if_pos rfl]
    refine ⟨fun j => ?_, h.c, h.r, h.g⟩
    show (if j = b then true else F j) = _
    by_cases ej : j = b
    · rw [if_pos ej, ej, ← h.has, e2]
    · rw [if_neg ej, h.has]
theorem Sw.pick {S : LS} {F : Int → Bool} {c : Nat} {m : Int} (h : Sw S F c) (hg : Lg S m) {k : Int} (hx : Nx S k) : F k = true ∧ (0 ≤ k ∧ k < 1024) ∧ Sw (pkS S k) (fun j => if j = k then false else F j) (c - 1) := by
  have hl := pk_len hg.nd hx
  obtain ⟨⟨y, hy, ey⟩, _⟩ := hx
  refine ⟨by rw [h.has]; exact (hs_iff _ _).2 ⟨y, hy, ey⟩, by rw [← ey]; exact h.r y hy, fun b => ?_, by have := h.c; omega, fun x hx => ?_, h.g⟩
  · show (if b = k then false else F b) = _
    rw [Bool.eq_iff_iff, hs_iff]
    by_cases e : b = k
    · rw [if_pos e]
      constructor
      · intro h; cases h
      · rintro ⟨x, hx1, hx2⟩
        obtain ⟨z, h1, h2, rfl⟩ := pk_in.1 hx1
        exact absurd (hx2.trans e) h2
    · rw [if_neg e, h.has, hs_iff]
      constructor
      · rintro ⟨x, h1, h2⟩
        exact ⟨incW x, pk_in.2 ⟨x, h1, by rw [h2]; exact e, rfl⟩, h2⟩
      · rintro ⟨x, h1, h2⟩
        obtain ⟨z, h3, h4, rfl⟩ := pk_in.1 h1
        exact ⟨z, h3, h2⟩
  · obtain ⟨z, h1, h2, rfl⟩ := pk_in.1 hx
    exact h.r z h1
/-- how far the sweep is: last is the key that was served last; behind the turn the keys are below the first one. -/
structure Tn (S : LS) (first last : Int) (turned : Bool) : Prop where
  h : S.h = last + 1
  up : turned = false → first ≤ last ∧ ∀ x ∈ S.L, x.k ≤ first ∨ last < x.k
  dn : turned = true → ∀ x ∈ S.L, last < x.k ∧ x.k ≤ first
/-- the next one. -/
theorem Tn.pick {S : LS} {first last : Int} {t : Bool} {m : Int} (h : Tn S first last t) (hm : m < 65536) (hg : Lg S m) (hG : S.g = 65536) {k : Int} (hx : Nx S k) : (k ≤ last → t = false) ∧ ((t || decide (k ≤ last)) = true → k ≤ first) ∧ Tn (pkS S k) first k (t || decide (k ≤ last)) := by
  have hnl : ¬ S.g ≤ (S.L.getD 0 wz).n := by
    intro hle
    have h0 : 0 < S.L.length := by obtain ⟨⟨x, hx, _⟩, _⟩ := hx; exact List.length_pos_of_mem hx
    have := (hg.n (S.L.getD 0 wz) (by rw [List.getD_eq_getElem?_getD, List.getElem?_eq_getElem h0]; exact List.getElem_mem h0)).2
    omega
  have hx0 := hx
  obtain ⟨⟨y, hy, ey⟩, _, h3⟩ := hx0
  have h3 := h3 hnl
  have hH := h.h
  have hpk : ∀ x ∈ (pkS S k).L, ∃ z ∈ S.L, z.k ≠ k ∧ z.k = x.k := fun x hx => by
    obtain ⟨z, h1, h2, rfl⟩ := pk_in.1 hx
    exact ⟨z, h1, h2, rfl⟩
  by_cases hkl : k ≤ last
  · have hdec : decide (k ≤ last) = true := decide_eq_true hkl
    rw [hdec, Bool.or_true]
    rcases h3 with ⟨q1, q2⟩ | ⟨q1, q2⟩
    · omega
    · have ht : t = false := by
        cases t with
        | false => rfl
        | true => have := (h.dn rfl y hy).1; omega
      obtain ⟨u1, u2⟩ := h.up ht
      refine ⟨fun _ => ht, fun _ => ?_, rfl, fun e => (by cases e), fun _ x hx => ?_⟩
      · rcases u2 y hy with h | h <;> omega
      · obtain ⟨z, hz, z1, z2⟩ := hpk x hx
        have a1 := q2 z hz
        have a2 := q1 z hz
        rcases u2 z hz with h | h <;> omega
  · have hdec : decide (k ≤ last) = false := decide_eq_false hkl
    rw [hdec, Bool.or_false]
    rcases h3 with ⟨q1, q2⟩ | ⟨q1, q2⟩
    · refine ⟨fun e => absurd e hkl, fun e => ?_, rfl, fun e => ⟨?_, fun x hx => ?_⟩, fun e x hx => ?_⟩
      · have := (h.dn e y hy).2; omega
      · have := (h.up e).1; omega
      · obtain ⟨z, hz, z1, z2⟩ := hpk x hx
        rcases (h.up e).2 z hz with a | a
        · left; omega
        · right
          have := q2 z hz (by omega)
          omega
      · obtain ⟨z, hz, z1, z2⟩ := hpk x hx
        have a := h.dn e z hz
        have := q2 z hz (by omega)
        omega
    · have := q1 y hy; omega

end Go.Proofs.Ytcmomebjkbhboaa
