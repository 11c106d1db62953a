/-
  The document's cache: its state in memory, and its calls; both caches side by side. Conditions: that they lie in memory.
-/
import Derived.Test.YtncdidklgpmefaaDoorCaDirty
import Derived.Test.YtncdidklgpmefaaDoorZTuR
namespace Go.Proofs.YtncdidklgpmefaaDoor
open Go.RowKit Plain
set_option linter.unusedVariables false

structure DC where
  s : Int
  c : Int
  n : ByteArray
  o : ByteArray
  d : Bool
def dc0 : DC := ⟨0, 0, noS, noS, false⟩
theorem dc_at {l : List DC} {i : Nat} (h : i < l.length) : l = l.take i ++ l.getD i dc0 :: l.drop (i + 1) := by
  conv => lhs; rw [← List.take_append_drop i l]
  rw [List.drop_eq_getElem_cons h, List.getD_eq_getElem?_getD, List.getElem?_eq_getElem h]; rfl
theorem dc_take {l : List DC} {i : Nat} (h : i < l.length) : l.take (i + 1) = l.take i ++ [l.getD i dc0] := by
  rw [List.take_add_one, List.getElem?_eq_getElem h, List.getD_eq_getElem?_getD, List.getElem?_eq_getElem h]; rfl
theorem dc_mem {l : List DC} {i : Nat} (h : i < l.length) : l.getD i dc0 ∈ l := by
  rw [List.getD_eq_getElem?_getD, List.getElem?_eq_getElem h]
  exact List.getElem_mem h
/-- cells of two places. -/
def Ap (x y : DC) : Prop := ¬ (x.s = y.s ∧ x.c = y.c)
theorem Ap.symm {x y : DC} (h : Ap x y) : Ap y x := fun e => h ⟨e.1.symm, e.2.symm⟩
/-- cells beside what is held. -/
structure Rc (L : List DC) (H : Int → Hd) : Prop where
  nd : L.Pairwise Ap
  at_ : ∀ x ∈ L, x.n = (H x.s).n x.c ∧ x.o = (H x.s).o x.c ∧ x.d = (H x.s).d x.c ∧ isS x.n = true
  in_ : ∀ k j, isS ((H k).n j) = true → ∃ x ∈ L, x.s = k ∧ x.c = j
theorem Rc.new : Rc [] (fun _ => hd0) := ⟨List.Pairwise.nil, fun x h => (by cases h), fun k j h => by
  have : isS noS = true := h
  rw [isS_no] at this; cases this⟩
/-- where a cell stands. -/
def Fc (L : List DC) (k j z : Int) : Prop := (z = -1 ∧ ∀ x ∈ L, ¬ (x.s = k ∧ x.c = j)) ∨ ∃ A y B, L = A ++ y :: B ∧ z = (A.length : Int) ∧ y.s = k ∧ y.c = j
theorem Rc.no {L : List DC} {H : Int → Hd} (h : Rc L H) {k j : Int} (hf : ∀ x ∈ L, ¬ (x.s = k ∧ x.c = j)) : isS ((H k).n j) = false := by
  cases e : isS ((H k).n j) with
  | false => rfl
  | true => obtain ⟨x, hx, e2⟩ := h.in_ k j e; exact absurd e2 (hf x hx)
theorem Ap.mid {A B : List DC} {y : DC} (h : (A ++ y :: B).Pairwise Ap) : ∀ x ∈ A ++ B, Ap x y := by
  intro x hx
  rw [List.pairwise_append] at h
  rcases List.mem_append.1 hx with hx | hx
  · exact h.2.2 x hx y (by simp)
  · exact (List.pairwise_cons.1 h.2.1).1 x hx |>.symm
theorem Ap.turn {A B : List DC} {y y' : DC} (h : (A ++ y :: B).Pairwise Ap) (es : y'.s = y.s) (ec : y'.c = y.c) : (A ++ y' :: B).Pairwise Ap := by
  rw [List.pairwise_append] at h ⊢
  obtain ⟨h1, h2, h3⟩ := h
  obtain ⟨h4, h5⟩ := List.pairwise_cons.1 h2
  refine ⟨h1, List.pairwise_cons.2 ⟨fun z hz e => h4 z hz ⟨by rw [← es]; exact e.1, by rw [← ec]; exact e.2⟩, h5⟩, fun a ha z hz => ?_⟩
  rcases List.mem_cons.1 hz with rfl | hz
  · intro e; exact h3 a ha y (by simp) ⟨by rw [← es]; exact e.1, by rw [← ec]; exact e.2⟩
  · exact h3 a ha z (by simp [hz])
theorem dmid_or {A B : List DC} {x y : DC} (h : x ∈ A ++ y :: B) : x = y ∨ x ∈ A ++ B := by
  rcases List.mem_append.1 h with h | h
  · exact .inr (List.mem_append_left _ h)
  · rcases List.mem_cons.1 h with h | h
    · exact .inl h
    · exact .inr (List.mem_append_right _ h)
theorem dmid_in {A B : List DC} {x y : DC} (h : x ∈ A ++ B) : x ∈ A ++ y :: B := by
  rcases List.mem_append.1 h with h | h
  · exact List.mem_append_left _ h
  · exact List.mem_append_right _ (List.mem_cons_of_mem _ h)
/-- one cell turned as what is held of its column is. -/
theorem Rc.turn {L A B : List DC} {H H' : Int → Hd} (h : Rc L H) {y y' : DC} (e : L = A ++ y :: B) (es : y'.s = y.s) (ec : y'.c = y.c) (hy : y'.n = (H' y.s).n y.c ∧ y'.o = (H' y.s).o y.c ∧ y'.d = (H' y.s).d y.c ∧ isS y'.n = true) (hH : ∀ k j, ¬ (k = y.s ∧ j = y.c) → (H' k).n j = (H k).n j ∧ (H' k).o j = (H k).o j ∧ (H' k).d j = (H k).d j) : Rc (A ++ y' :: B) H' := by
  subst e
  have hm := Ap.mid h.nd
  refine ⟨Ap.turn h.nd es ec, fun x hx => ?_, fun k j hk => ?_⟩
  · rcases dmid_or hx with rfl | hx
    · rw [es, ec]; exact hy
    · obtain ⟨e1, e2, e3⟩ := hH x.s x.c (hm x hx)
      rw [e1, e2, e3]
      exact h.at_ x (dmid_in hx)
  · by_cases e : k = y.s ∧ j = y.c
    · exact ⟨y', by simp, by rw [es]; exact e.1.symm, by rw [ec]; exact e.2.symm⟩
    · rw [(hH k j e).1] at hk
      obtain ⟨x, hx, e1⟩ := h.in_ k j hk
      rcases dmid_or hx with rfl | hx
      · exact absurd ⟨e1.1.symm, e1.2.symm⟩ e
      · exact ⟨x, dmid_in hx, e1⟩
/-- one more cell. -/
theorem Rc.push {L : List DC} {H H' : Int → Hd} (h : Rc L H) {y : DC} (hf : ∀ x ∈ L, ¬ (x.s = y.s ∧ x.c = y.c)) (hy : y.n = (H' y.s).n y.c ∧ y.o = (H' y.s).o y.c ∧ y.d = (H' y.s).d y.c ∧ isS y.n = true) (hH : ∀ k j, ¬ (k = y.s ∧ j = y.c) → (H' k).n j = (H k).n j ∧ (H' k).o j = (H k).o j ∧ (H' k).d j = (H k).d j) : Rc (L ++ [y]) H' := by
  refine ⟨List.pairwise_append.2 ⟨h.nd, by simp, fun a ha b hb => by rw [List.mem_singleton.1 hb]; exact hf a ha⟩, fun x hx => ?_, fun k j hk => ?_⟩
  · rcases List.mem_append.1 hx with hx | hx
    · obtain ⟨e1, e2, e3⟩ := hH x.s x.c (hf x hx)
      rw [e1, e2, e3]
      exact h.at_ x hx
    · rw [List.mem_singleton.1 hx]; exact hy
  · by_cases e : k = y.s ∧ j = y.c
    · exact ⟨y, by simp, e.1.symm, e.2.symm⟩
    · rw [(hH k j e).1] at hk
      obtain ⟨x, hx, e1⟩ := h.in_ k j hk
      exact ⟨x, List.mem_append_left _ hx, e1⟩
/-- a stripe gone. -/
def otL (k : Int) (L : List DC) : List DC := L.filter fun x => decide (x.s ≠ k)
theorem Rc.gone {L : List DC} {H : Int → Hd} (h : Rc L H) (k : Int) : Rc (otL k L) (upH H k hd0) := by
  refine ⟨h.nd.filter _, fun x hx => ?_, fun i j hk => ?_⟩
  · obtain ⟨h1, h2⟩ := List.mem_filter.1 hx
    rw [upH_off _ _ (by simpa using h2)]
    exact h.at_ x h1
  · by_cases e : i = k
    · rw [e, upH_at] at hk
      have : isS noS = true := hk
      rw [isS_no] at this; cases this
    · rw [upH_off _ _ e] at hk
      obtain ⟨x, hx, e1⟩ := h.in_ i j hk
      exact ⟨x, List.mem_filter.2 ⟨hx, by rw [e1.1]; simpa using e⟩, e1⟩
theorem otL_next {L : List DC} {k : Int} {i : Nat} (h : i < L.length) : otL k (L.take (i + 1)) = if (L.getD i dc0).s = k then otL k (L.take i) else otL k (L.take i) ++ [L.getD i dc0] := by
  unfold otL
  rw [dc_take h, List.filter_append]
  by_cases e : (L.getD i dc0).s = k
  · rw [if_pos e, List.filter_cons, if_neg (by simpa using e)]; simp
  · rw [if_neg e, List.filter_cons, if_pos (by simpa using e)]; rfl
theorem otL_len (k : Int) (L : List DC) : (otL k L).length ≤ L.length := List.length_filter_le _ _
/-- members have all of a stripe. -/
def dnX (k : Int) (x : DC) : DC := if x.s = k then { x with d := false, o := x.n } else x
def dnL (k : Int) (i : Nat) (L : List DC) : List DC := (L.take i).map (dnX k) ++ L.drop i
theorem dnX_same (k : Int) (x : DC) : (dnX k x).s = x.s ∧ (dnX k x).c = x.c ∧ (dnX k x).n = x.n := by
  unfold dnX
  split <;> exact ⟨rfl, rfl, rfl⟩
theorem Rc.done {L : List DC} {H : Int → Hd} (h : Rc L H) (k : Int) : Rc (L.map (dnX k)) (upH H k (dnH (H k))) := by
  refine ⟨?_, fun x hx => ?_, fun i j hk => ?_⟩
  · rw [List.pairwise_map]
    refine h.nd.imp fun {a b} hab e => hab ?_
    rw [(dnX_same k a).1, (dnX_same k b).1, (dnX_same k a).2.1, (dnX_same k b).2.1] at e
    exact e
  · obtain ⟨y, hy, rfl⟩ := List.mem_map.1 hx
    obtain ⟨q1, q2, q3, q4⟩ := h.at_ y hy
    obtain ⟨e1, e2, e3⟩ := dnX_same k y
    rw [e1, e2, e3]
    by_cases e : y.s = k
    · rw [e, upH_at]
      refine ⟨by rw [← e]; exact q1, ?_, ?_, q4⟩
      · show (dnX k y).o = (H k).n y.c
        unfold dnX
        rw [if_pos e, ← e]; exact q1
      · show (dnX k y).d = false
        unfold dnX
        rw [if_pos e]
    · rw [upH_off _ _ e]
      have : dnX k y = y := if_neg e
      rw [this]
      exact ⟨q1, q2, q3, q4⟩
  · have hk2 : isS ((H i).n j) = true := by
      by_cases e : i = k
      · rw [e, upH_at] at hk; rw [e]; exact hk
      · rw [upH_off _ _ e] at hk; exact hk
    obtain ⟨x, hx, e1⟩ := h.in_ i j hk2
    exact ⟨dnX k x, List.mem_map_of_mem hx, by rw [(dnX_same k x).1]; exact e1.1, by rw [(dnX_same k x).2.1]; exact e1.2⟩
/-! ### columns as bits -/
/-- is a cell one of its kind? -/
def kd (kind : Int) (x : DC) : Bool := if kind = 2 then isS x.o else if kind = 1 then x.d else isS x.n
def clF (L : List DC) (k kind : Int) (i : Nat) : Bool := L.any fun x => decide (x.s = k) && kd kind x && decide (x.c = (i : Int))
theorem clF_nil (k kind : Int) : clF [] k kind = noF := rfl
theorem clF_app (L : List DC) (x : DC) (k kind : Int) (i : Nat) : clF (L ++ [x]) k kind i = (clF L k kind i || (decide (x.s = k) && kd kind x && decide (x.c = (i : Int)))) := by
  unfold clF
  rw [List.any_append]
  simp
theorem wn_add : ∀ (n c : Nat) (h : Nat → Bool), c < n → h c = false → wn n (fun j => h j || decide (j = c)) = wn n h + 2 ^ c
  | 0, c, h, hc, _ => by omega
  | n + 1, 0, h, _, e => by
    simp only [wn]
    rw [e, wn_congr n (fun j => h (j + 1) || decide (j + 1 = 0)) (fun j => h (j + 1)) (fun j _ => by simp)]
    simp
    omega
  | n + 1, c + 1, h, hc, e => by
    simp only [wn]
    have := wn_add n c (fun j => h (j + 1)) (by omega) e
    rw [wn_congr n (fun j => h (j + 1) || decide (j + 1 = c + 1)) (fun j => h (j + 1) || decide (j = c)) (fun j _ => by simp), this, Nat.pow_succ]
    simp
    omega
/-- the number that columns come to. -/
def clN (L : List DC) (k kind : Int) : Nat := wn 64 (clF L k kind)
theorem clN_nil (k kind : Int) : clN [] k kind = 0 := wn_zero 64 _ (fun _ _ => rfl)
theorem clN_skip {L : List DC} {x : DC} {k kind : Int} (h : (decide (x.s = k) && kd kind x) = false) : clN (L ++ [x]) k kind = clN L k kind := wn_congr 64 _ _ (fun j _ => by rw [clF_app, h]; simp)
theorem clN_add {L : List DC} {x : DC} {k kind : Int} (h : (decide (x.s = k) && kd kind x) = true) {c : Nat} (hc : x.c = (c : Int)) (hc2 : c < 64) (ha : ∀ y ∈ L, Ap y x) : clN (L ++ [x]) k kind = clN L k kind + 2 ^ c := by
  have hs : x.s = k := by rw [Bool.and_eq_true] at h; exact of_decide_eq_true h.1
  have h0 : clF L k kind c = false := by
    unfold clF
    rw [List.any_eq_false]
    intro y hy e
    rw [Bool.and_eq_true, Bool.and_eq_true] at e
    exact ha y hy ⟨by rw [of_decide_eq_true e.1.1, hs], by rw [of_decide_eq_true e.2, hc]⟩
  unfold clN
  rw [← wn_add 64 c (clF L k kind) hc2 h0]
  refine wn_congr 64 _ _ (fun j _ => ?_)
  rw [clF_app, h, hc]
  simp only [Bool.true_and]
  congr 1
  exact decide_eq_decide.2 (by omega)
theorem clN_lt (L : List DC) (k kind : Int) : clN L k kind < 18446744073709551616 := wn_lt 64 _
/-- what the columns of a kind are, of what is held. -/
def kdF (H : Hd) (kind : Int) : Nat → Bool := if kind = 2 then stF H.o else if kind = 1 then sdF H.d else stF H.n
theorem Rc.clF {L : List DC} {H : Int → Hd} (h : Rc L H) (hok : ∀ k, ∃ W, HOk W (H k)) (k kind : Int) (i : Nat) : clF L k kind i = kdF (H k) kind i := by
  have key : Go.Proofs.YtncdidklgpmefaaDoor.clF L k kind i = true ↔ kdF (H k) kind i = true := by
    unfold Go.Proofs.YtncdidklgpmefaaDoor.clF
    rw [List.any_eq_true]
    constructor
    · rintro ⟨x, hx, e⟩
      rw [Bool.and_eq_true, Bool.and_eq_true] at e
      obtain ⟨⟨e1, e2⟩, e3⟩ := e
      obtain ⟨q1, q2, q3, q4⟩ := h.at_ x hx
      rw [of_decide_eq_true e1] at q1 q2 q3
      rw [of_decide_eq_true e3] at q1 q2 q3
      unfold kd at e2
      unfold kdF
      by_cases a : kind = 2
      · rw [if_pos a] at e2 ⊢
        unfold stF
        rw [← q2]; exact e2
      · rw [if_neg a] at e2 ⊢
        by_cases b : kind = 1
        · rw [if_pos b] at e2 ⊢
          unfold sdF
          rw [← q3]; exact e2
        · rw [if_neg b] at e2 ⊢
          unfold stF
          rw [← q1]; exact e2
    · intro e
      have hn : isS ((H k).n (i : Int)) = true := by
        obtain ⟨W, ok⟩ := hok k
        unfold kdF at e
        by_cases a : kind = 2
        · rw [if_pos a] at e
          unfold stF isS at e
          have e2 : ((H k).o (i : Int)).size = 64 := by
            rcases ok.so (i : Int) with e3 | e3
            · rw [e3] at e; exact absurd e (by decide)
            · exact e3
          exact isS_of (ok.on _ e2)
        · rw [if_neg a] at e
          by_cases b : kind = 1
          · rw [if_pos b] at e
            exact isS_of (ok.dn _ e)
          · rw [if_neg b] at e
            exact e
      obtain ⟨x, hx, e1, e2⟩ := h.in_ k i hn
      obtain ⟨q1, q2, q3, q4⟩ := h.at_ x hx
      rw [e1, e2] at q1 q2 q3
      refine ⟨x, hx, ?_⟩
      rw [decide_eq_true e1, decide_eq_true e2, Bool.and_true, Bool.true_and]
      unfold kd
      unfold kdF at e
      by_cases a : kind = 2
      · rw [if_pos a] at e ⊢
        rw [q2]; exact e
      · rw [if_neg a] at e ⊢
        by_cases b : kind = 1
        · rw [if_pos b] at e ⊢
          rw [q3]; exact e
        · rw [if_neg b] at e ⊢
          rw [q1]; exact e
  cases e : kdF (H k) kind i with
  | true => exact key.2 e
  | false =>
    cases e2 : Go.Proofs.YtncdidklgpmefaaDoor.clF L k kind i with
    | false => rfl
    | true => rw [key.1 e2] at e; cases e
theorem Rc.clN {L : List DC} {H : Int → Hd} (h : Rc L H) (hok : ∀ k, ∃ W, HOk W (H k)) (k kind : Int) : clN L k kind = wn 64 (kdF (H k) kind) := wn_congr 64 _ _ (fun j _ => h.clF hok k kind j)
theorem fl_stop (f : Nat → Bool) (m : Nat) : ∀ n, m ≤ n → (∀ j, m ≤ j → j < n → f j = false) → fl n f = fl m f
  | 0, h, _ => by rw [show m = 0 by omega]
  | n + 1, h, hf => by
    by_cases e : m = n + 1
    · rw [e]
    · show (if f n then fl n f ++ [n] else fl n f) = _
      rw [hf n (by omega) (by omega), if_neg (by decide)]
      exact fl_stop f m n (by omega) (fun j h1 h2 => hf j h1 (by omega))

end Go.Proofs.YtncdidklgpmefaaDoor

namespace Go.Proofs.YtncdidklgpmefaaDoor
open Go.RowKit Plain
set_option linter.unusedVariables false

def cc5 (x : DC) : List Value := [.int .i64 x.s, .int .i64 x.c, .string x.n, .string x.o, .bool x.d]
def cv : List DC → List Value
  | [] => []
  | p :: l => cc5 p ++ cv l
theorem cv_len : ∀ l, (cv l).length = l.length * 5
  | [] => rfl
  | p :: l => by simp only [cv, cc5, List.length_append, List.length_cons, cv_len l, List.length_nil]; omega
theorem cv_app : ∀ l m, cv (l ++ m) = cv l ++ cv m
  | [], m => rfl
  | p :: l, m => by simp only [cv, List.cons_append, cv_app l m, List.append_assoc]
theorem cv_at : ∀ (l : List DC) (i : Nat), i < l.length → (cv l)[i * 5]? = some (.int .i64 (l.getD i dc0).s) ∧ (cv l)[i * 5 + 1]? = some (.int .i64 (l.getD i dc0).c) ∧ (cv l)[i * 5 + 2]? = some (.string (l.getD i dc0).n) ∧ (cv l)[i * 5 + 3]? = some (.string (l.getD i dc0).o) ∧ (cv l)[i * 5 + 4]? = some (.bool (l.getD i dc0).d)
  | [], i, h => by simp at h
  | p :: l, 0, h => by simp [cv, cc5]
  | p :: l, i + 1, h => by
    have := cv_at l i (by simpa using h)
    rw [show (i + 1) * 5 = i * 5 + 1 + 1 + 1 + 1 + 1 by omega]
    simpa [cv, cc5] using this
theorem cv_one : ∀ (l : List DC), ∀ u ∈ cv l, u.oneCell' = true
  | [], u, h => by simp [cv] at h
  | p :: l, u, h => by
    simp only [cv, cc5, List.mem_append, List.mem_cons, List.not_mem_nil, or_false] at h
    rcases h with (rfl | rfl | rfl | rfl | rfl) | h
    · rfl
    · rfl
    · rfl
    · rfl
    · rfl
    · exact cv_one l u h
theorem cv_setn : ∀ (A : List DC) (y : DC) (B : List DC) (b : ByteArray), (cv (A ++ y :: B)).set (A.length * 5 + 2) (.string b) = cv (A ++ { y with n := b } :: B)
  | [], y, B, b => rfl
  | a :: A, y, B, b => by
    have := cv_setn A y B b
    rw [show (a :: A).length * 5 + 2 = (A.length * 5 + 2) + 1 + 1 + 1 + 1 + 1 by simp; omega]
    simp only [cv, cc5, List.cons_append, List.nil_append, List.set_cons_succ, this]
theorem cv_seto : ∀ (A : List DC) (y : DC) (B : List DC) (b : ByteArray), (cv (A ++ y :: B)).set (A.length * 5 + 3) (.string b) = cv (A ++ { y with o := b } :: B)
  | [], y, B, b => rfl
  | a :: A, y, B, b => by
    have := cv_seto A y B b
    rw [show (a :: A).length * 5 + 3 = (A.length * 5 + 3) + 1 + 1 + 1 + 1 + 1 by simp; omega]
    simp only [cv, cc5, List.cons_append, List.nil_append, List.set_cons_succ, this]
theorem cv_setd : ∀ (A : List DC) (y : DC) (B : List DC) (b : Bool), (cv (A ++ y :: B)).set (A.length * 5 + 4) (.bool b) = cv (A ++ { y with d := b } :: B)
  | [], y, B, b => rfl
  | a :: A, y, B, b => by
    have := cv_setd A y B b
    rw [show (a :: A).length * 5 + 4 = (A.length * 5 + 4) + 1 + 1 + 1 + 1 + 1 by simp; omega]
    simp only [cv, cc5, List.cons_append, List.nil_append, List.set_cons_succ, this]
def OwC (w : World) (base : Nat) (v : Value) (l : List DC) : Prop := w.ownsRow base 84 5 v l.length (cv l)
def dcZ : Value := .agg #[.int .i64 0, .int .i64 0, .string ByteArray.empty, .string ByteArray.empty, .bool false]
theorem info_dc : (Tryd.prog.info? 84).map (fun i => (i.zero, i.size, i.bytes)) = some (some dcZ, 5, 56) := by kernel_rfl
section
variable {w w' : World} {base : Nat} {v : Value} {l : List DC}
theorem OwC.kept (h : OwC w base v l) (k : Kp w w') : OwC w' base v l := k.own h
theorem OwC.sp {T : List Nat} (h : OwC w base v l) (k : Sp T w w') (hT : ∀ g, v.ownBlock = some g → g ∉ T) : OwC w' base v l := k.own h hT
theorem OwC.lt (h : OwC w base v l) : ∀ g, v.ownBlock = some g → base ≤ g ∧ g < w.heap.size := fun g hg => World.ownsRow.lt h g hg
end
theorem OwC.nil (w : World) (base : Nat) : OwC w base (.slice none 0 0) [] := ⟨rfl, .inl ⟨rfl, rfl⟩⟩
theorem OwC.mono {w : World} {base base' : Nat} {v : Value} {l : List DC} (h : OwC w base v l) (hb : base' ≤ base) : OwC w base' v l := by
  rcases h.2 with ⟨h', h0⟩ | ⟨g, cap, cur, h', hg, hr⟩
  · exact ⟨h.1, .inl ⟨h', h0⟩⟩
  · exact ⟨h.1, .inr ⟨g, cap, cur, h', Nat.le_trans hb hg, hr⟩⟩
theorem OwC.shape {w : World} {base : Nat} {v : Value} {l : List DC} (h : OwC w base v l) : ∃ p c, v = .slice p l.length c ∧ l.length ≤ c ∧ c ≤ 9223372036854775807 := by
  rcases h.2 with ⟨rfl, h0⟩ | ⟨g, cap, cur, rfl, _, hg, hn, hm, hcs, htake⟩
  · exact ⟨none, 0, by rw [h0], by omega, by omega⟩
  · exact ⟨_, cap, rfl, hn, by unfold maxLen at hm; omega⟩
/-- the row's cells. -/
theorem OwC.cells {w : World} {base n c : Nat} {p : Option Addr} {l : List DC} (h : OwC w base (.slice p n c) l) : n = l.length ∧ ∃ g, (0 < n → p = some ⟨g, 0, none⟩) ∧ (0 < n → (Value.slice p n c).ownBlock = some g) ∧ (∀ i, i < n → w.cell? ⟨g, i * 5, none⟩ = some (.int .i64 (l.getD i dc0).s) ∧ w.cell? ⟨g, i * 5 + 1, none⟩ = some (.int .i64 (l.getD i dc0).c) ∧ w.cell? ⟨g, i * 5 + 2, none⟩ = some (.string (l.getD i dc0).n) ∧ w.cell? ⟨g, i * 5 + 3, none⟩ = some (.string (l.getD i dc0).o) ∧ w.cell? ⟨g, i * 5 + 4, none⟩ = some (.bool (l.getD i dc0).d)) ∧ ∀ j, 0 < n → w.frozen? ⟨g, j, none⟩ = false := by
  have h0 := h
  rcases h.2 with ⟨h1, h2⟩ | ⟨g, cap, cur, h1, _, hg, hn, hm, hcs, htake⟩
  · simp at h1
    obtain ⟨rfl, rfl, rfl⟩ := h1
    exact ⟨h2.symm, 0, fun h => absurd h (by omega), fun h => absurd h (by omega), fun i hi => absurd hi (by omega), fun j h => absurd h (by omega)⟩
  · simp at h1
    obtain ⟨rfl, rfl, rfl⟩ := h1
    refine ⟨rfl, g, fun _ => rfl, fun _ => rfl, fun i hi => ?_, fun j _ => World.ownsRow.frozenAt h0 j⟩
    have hq := cv_at l i hi
    refine ⟨?_, ?_, ?_, ?_, ?_⟩
    · rw [World.ownsRow.cellAt h0 (i * 5) (by omega)]; exact hq.1
    · rw [World.ownsRow.cellAt h0 (i * 5 + 1) (by omega)]; exact hq.2.1
    · rw [World.ownsRow.cellAt h0 (i * 5 + 2) (by omega)]; exact hq.2.2.1
    · rw [World.ownsRow.cellAt h0 (i * 5 + 3) (by omega)]; exact hq.2.2.2.1
    · rw [World.ownsRow.cellAt h0 (i * 5 + 4) (by omega)]; exact hq.2.2.2.2
/-- one key appended. -/
theorem wpList_append_dc {w : World} {ops : Array Oper} {rest : List Oper} {o : Oper} {a : Act} {Q : Exit → Act → World → Prop} (hgd : o.guard = none) (s x : Operand)
    (ho : o.op = .call { callee := .builtin .append, args := #[s, x], argTypes := #[59, 59] })
    (base : Nat) (v : Value) (l : List DC) (hs : a.eval s = v) (hown : OwC w base v l) (p : DC) (k : Nat) (hx : a.eval x = .slice (some ⟨k, 0, none⟩) 1 1) (hc : w.rangeAt k 0 (cc5 p))
    (hlen : l.length + 1 ≤ 1099511627776) (hbase : base ≤ w.heap.size)
    (h : ∀ v' w', OwC w' base v' (l ++ [p]) → w.grownBy w' v.ownBlock → (v'.ownBlock = v.ownBlock ∨ v'.ownBlock = some w.heap.size) → wpList Tryd.prog ops Q rest (a.put o.dst v') w') : wpList Tryd.prog ops Q (o :: rest) a w := by
  obtain ⟨i0, hi, hz0, hz1, hz2⟩ := info_parts info_dc
  refine wpList_append_own_at w hgd s x 59 ho base 84 i0 dcZ 5 56 Tryd.underlying59 hi hz0 hz1 hz2 rfl (by decide) v l.length (cv l) hs hown ⟨k, 0, none⟩ 1 1 (cc5 p) hx rfl ?_ (by simp [cc5, Value.oneCell']) (by unfold maxLen; omega) (by omega) hbase (fun v' w' h1 h2 _ h3 => h v' w' ?_ h2 h3)
  · intro j u hj
    rw [Addr.add_lit]
    exact hc j u hj
  · unfold OwC
    rw [List.length_append, cv_app]
    have : cv [p] = cc5 p := by simp [cv]
    rw [this]
    exact h1
theorem lit_dc (w : World) (p : DC) (t : TypeId) (k : Nat) (hk : k = w.heap.size) : (w.alloc (.cells #[.int .i64 p.s, .int .i64 p.c, .string p.n, .string p.o, .bool p.d] t)).rangeAt k 0 (cc5 p) := by
  subst hk
  intro j u hj
  rw [World.cell?_alloc_at _ _ _ _ rfl, ← hj, Nat.zero_add]
  unfold cc5
  simp
/-- a cell of a key stored. -/
theorem OwC.set {w : World} {base g n c : Nat} {l m : List DC} (h : OwC w base (.slice (some ⟨g, 0, none⟩) n c) l) (j : Nat) (x : Value) (e : (cv l).set j x = cv m) (hl : m.length = l.length) : OwC (w.setCell ⟨g, j, none⟩ x) base (.slice (some ⟨g, 0, none⟩) n c) m := by
  obtain ⟨rfl, _⟩ := h.cells
  have h1 := (World.ownsRow.stored h j x).1
  unfold OwC
  rw [hl, ← e]
  exact h1

theorem run_append_dc {w : World} (ty : TypeId) (base : Nat) (v : Value) (l : List DC) (hown : OwC w base v l) (p : DC) (k : Nat) (hc : w.rangeAt k 0 (cc5 p))
    (hlen : l.length + 1 ≤ 1099511627776) (hbase : base ≤ w.heap.size) : ∃ v' w', (Builtin.append_ #[59, 59] ty #[v, .slice (some ⟨k, 0, none⟩) 1 1]).run Tryd.prog w = .ok v' w' ∧ OwC w' base v' (l ++ [p]) ∧ w.grownBy w' v.ownBlock ∧ (v'.ownBlock = v.ownBlock ∨ v'.ownBlock = some w.heap.size) := by
  obtain ⟨i0, hi, hz0, hz1, hz2⟩ := info_parts info_dc
  obtain ⟨v', w', hr, h1, h2, _, h3⟩ := run_append_own_at (P := Tryd.prog) w base 59 ty 84 i0 dcZ 5 56 Tryd.underlying59 hi hz0 hz1 hz2 rfl (by decide) v l.length (cv l) hown ⟨k, 0, none⟩ 1 1 (cc5 p) rfl (by
    intro j u hj
    rw [Addr.add_lit]
    exact hc j u hj) (by simp [cc5, Value.oneCell']) (by unfold maxLen; omega) (by omega) hbase
  refine ⟨v', w', hr, ?_, h2, h3⟩
  unfold OwC
  rw [List.length_append, cv_app]
  have : cv [p] = cc5 p := by simp [cv]
  rw [this]
  exact h1
theorem OwC.lk {w w' : World} {base : Nat} {v : Value} {l : List DC} (h : OwC w base v l) (hX : ∀ g, v.ownBlock = some g → w'.heap[g]? = w.heap[g]?) : OwC w' base v l := by
  rcases h.2 with ⟨h', h0⟩ | ⟨g, cap, cur, h', hb, hg, hr⟩
  · exact ⟨h.1, .inl ⟨h', h0⟩⟩
  · exact ⟨h.1, .inr ⟨g, cap, cur, h', hb, (hX g (by rw [h']; rfl)).trans hg, hr⟩⟩
theorem OwR.lk {w w' : World} {base : Nat} {v : Value} {l : List RK} (h : OwR w base v l) (hX : ∀ g, v.ownBlock = some g → w'.heap[g]? = w.heap[g]?) : OwR w' base v l := by
  rcases h.2 with ⟨h', h0⟩ | ⟨g, cap, cur, h', hb, hg, hr⟩
  · exact ⟨h.1, .inl ⟨h', h0⟩⟩
  · exact ⟨h.1, .inr ⟨g, cap, cur, h', hb, (hX g (by rw [h']; rfl)).trans hg, hr⟩⟩
theorem RX.lk {w0 w w' : World} {a : Nat} {T : List Nat} {R : RS} (h : RX w0 w a T R) (l : Lk T w w') (hs : w0.heap.size ≤ w'.heap.size) : RX w0 w' a T R := by
  obtain ⟨v, rfl, h⟩ := h
  exact ⟨v, rfl, ⟨(l a (by simp)).trans h.h, h.o.lk (fun g hg => l g (by simp [hg])), h.ba, h.va, hs⟩⟩

/-! ### the object -/
structure DS where
  R : RS
  L : List DC
  W : Int
structure DB (w0 w : World) (r tr : Nat) (v : Value) (T : List Nat) (D : DS) : Prop where
  h : w.heap[r]? = some (.cells #[.pointer (some ⟨tr, 0, none⟩), .int .i64 D.W, v] 61 (0, 0))
  o : OwC w w0.heap.size v D.L
  t : RX w0 w tr T D.R
  br : w0.heap.size ≤ r
  vr : v.ownBlock ≠ some r
  rT : r ∉ T
  vT : ∀ g, v.ownBlock = some g → g ∉ T
def dbl (r : Nat) (v : Value) (T : List Nat) : List Nat := r :: (v.ownBlock.toList ++ T)
def DX (w0 w : World) (r : Nat) (Y : List Nat) (D : DS) : Prop := ∃ tr v T, Y = dbl r v T ∧ DB w0 w r tr v T D
theorem dbl_in {r : Nat} {v : Value} {T : List Nat} {t : Nat} (h : t ∈ dbl r v T) : t = r ∨ v.ownBlock = some t ∨ t ∈ T := by
  rcases List.mem_cons.1 h with h | h
  · exact .inl h
  · rcases List.mem_append.1 h with h | h
    · exact .inr (.inl (by simpa using h))
    · exact .inr (.inr h)
theorem dbl_r {r : Nat} {v : Value} {T : List Nat} : r ∈ dbl r v T := List.mem_cons_self
theorem dbl_v {r : Nat} {v : Value} {T : List Nat} {g : Nat} (h : v.ownBlock = some g) : g ∈ dbl r v T := List.mem_cons_of_mem _ (List.mem_append_left _ (by simp [h]))
theorem dbl_t {r : Nat} {v : Value} {T : List Nat} {t : Nat} (h : t ∈ T) : t ∈ dbl r v T := List.mem_cons_of_mem _ (List.mem_append_right _ h)
section
variable {w0 w w' w2 : World} {r tr : Nat} {v v' : Value} {T T' Y : List Nat} {D : DS} {l : List DC} {R' : RS}
theorem DB.low (h : DB w0 w r tr v T D) : ∀ t ∈ dbl r v T, t < w.heap.size ∧ w0.heap.size ≤ t := by
  intro t ht
  rcases dbl_in ht with rfl | ht | ht
  · exact ⟨heap_lt h.h, h.br⟩
  · have := h.o.lt t ht; omega
  · exact ⟨OL.rx.low h.t t ht, OL.rx.new h.t t ht⟩
theorem DB.sp {Z : List Nat} (h : DB w0 w r tr v T D) (k : Sp Z w w') (hd : ∀ t ∈ dbl r v T, t ∉ Z) : DB w0 w' r tr v T D :=
  ⟨(k.block r (heap_lt h.h) (hd r dbl_r)).trans h.h, h.o.sp k (fun g hg => hd g (dbl_v hg)), OL.rx.sp h.t k (fun t ht => hd t (dbl_t ht)), h.br, h.vr, h.rT, h.vT⟩
theorem OL.dx : OL DX where
  low := by rintro w0 w a T S ⟨tr, v, T', rfl, h⟩ t ht; exact (h.low t ht).1
  new := by rintro w0 w a T S ⟨tr, v, T', rfl, h⟩ t ht; exact (h.low t ht).2
  sp := by rintro w0 w w' a T T' S ⟨tr, v, T2, rfl, h⟩ k hd; exact ⟨tr, v, T2, rfl, h.sp k hd⟩
theorem DX.kept (h : DX w0 w r Y D) (k : Kp w w') : DX w0 w' r Y D := OL.dx.sp h (k.sp []) (fun _ _ h => by cases h)
theorem DX.lk (h : DX w0 w r Y D) (k : Lk Y w w') (hs : w0.heap.size ≤ w'.heap.size) : DX w0 w' r Y D := by
  obtain ⟨tr, v, T, rfl, h⟩ := h
  exact ⟨tr, v, T, rfl, ⟨(k r dbl_r).trans h.h, h.o.lk (fun g hg => k g (dbl_v hg)), h.t.lk (fun t ht => k t (dbl_t ht)) hs, h.br, h.vr, h.rT, h.vT⟩⟩
theorem DB.cells (h : DB w0 w r tr v T D) : w.cell? ⟨r, 0, none⟩ = some (.pointer (some ⟨tr, 0, none⟩)) ∧ w.cell? ⟨r, 1, none⟩ = some (.int .i64 D.W) ∧ w.cell? ⟨r, 2, none⟩ = some v ∧ ∀ j, w.frozen? ⟨r, j, none⟩ = false :=
  ⟨cell_of h.h 0, cell_of h.h 1, cell_of h.h 2, frozen_of h.h⟩
/-- a call on its turn. -/
theorem DB.turn (h : DB w0 w r tr v T D) (z : Nz RX w0 w w' tr T R') : ∃ T', DB w0 w' r tr v T' { D with R := R' } ∧ Sp T w w' ∧ Nw w T T' := by
  obtain ⟨T', h1, h2, h3⟩ := z
  have hr := heap_lt h.h
  refine ⟨T', ⟨(h2.block r hr h.rT).trans h.h, h.o.sp h2 h.vT, h1, h.br, h.vr, fun ht => ?_, fun g hg ht => ?_⟩, h2, h3⟩
  · rcases h3 r ht with e | e
    · exact h.rT e
    · omega
  · have := (h.o.lt g hg).2
    rcases h3 g ht with e | e
    · exact h.vT g hg e
    · omega
theorem DX.turn (h : DX w0 w r Y D) : ∃ tr T, RX w0 w tr T D.R ∧ w.cell? ⟨r, 0, none⟩ = some (.pointer (some ⟨tr, 0, none⟩)) ∧ ∀ w' R', Nz RX w0 w w' tr T R' → Nz DX w0 w w' r Y { D with R := R' } := by
  obtain ⟨tr, v, T, rfl, h⟩ := h
  refine ⟨tr, T, h.t, h.cells.1, fun w' R' z => ?_⟩
  obtain ⟨T', h1, h2, h3⟩ := h.turn z
  refine ⟨_, ⟨tr, v, T', rfl, h1⟩, h2.mono (fun t ht => dbl_t ht), fun t ht => ?_⟩
  rcases dbl_in ht with rfl | ht | ht
  · exact .inl dbl_r
  · exact .inl (dbl_v ht)
  · rcases h3 t ht with e | e
    · exact .inl (dbl_t e)
    · exact .inr e
/-- another row laid into it. -/
theorem DB.setL (h : DB w0 w r tr v T D) (k : Sp v.ownBlock.toList w w2) (ho : OwC w2 w0.heap.size v' l) (hn : v'.ownBlock = v.ownBlock ∨ ∀ N, v'.ownBlock = some N → w.heap.size ≤ N) : Nz DX w0 w (w2.setCell ⟨r, 2, none⟩ v') r (dbl r v T) { D with L := l } := by
  have hr := heap_lt h.h
  have h1' := (k.block r hr (fun e => h.vr (by simpa using e))).trans h.h
  have hvr : v'.ownBlock ≠ some r := by
    rcases hn with hn | hn
    · rw [hn]; exact h.vr
    · intro e; have := hn r e; omega
  have hT2 : RX w0 w2 tr T D.R := OL.rx.sp h.t k (fun t ht e => h.vT t (by simpa using e) ht)
  have k2 : Sp [r] w2 (w2.setCell ⟨r, 2, none⟩ v') := (Sp.refl _ _).set r _ (by simp) _
  refine ⟨dbl r v' T, ⟨tr, v', T, rfl, ⟨heap_set h1' 2 _, ho.sp k2 (fun q hq e => hvr (by simp at e; rw [← e]; exact hq)), OL.rx.sp hT2 k2 (fun t ht e => h.rT (by simp at e; rw [← e]; exact ht)), h.br, hvr, h.rT, fun g hg ht => ?_⟩⟩, ?_, ?_⟩
  · rcases hn with hn | hn
    · exact h.vT g (by rw [← hn]; exact hg) ht
    · have := hn g hg; have := OL.rx.low h.t g ht; omega
  · exact (k.mono (fun t ht => dbl_v (by simpa using ht))).trans (k2.mono (fun t ht => by simp at ht; subst ht; exact dbl_r))
  · intro t ht
    rcases dbl_in ht with rfl | ht | ht
    · exact .inl dbl_r
    · rcases hn with hn | hn
      · rw [hn] at ht; exact .inl (dbl_v ht)
      · exact .inr (hn t ht)
    · exact .inl (dbl_t ht)
/-- a cell's own cell stored. -/
theorem DB.setK {g n c : Nat} (h : DB w0 w r tr (.slice (some ⟨g, 0, none⟩) n c) T D) (j : Nat) (x : Value) (e : (cv D.L).set j x = cv l) (hl : l.length = D.L.length) : DB w0 (w.setCell ⟨g, j, none⟩ x) r tr (.slice (some ⟨g, 0, none⟩) n c) T { D with L := l } ∧ Sp (dbl r (.slice (some ⟨g, 0, none⟩) n c) T) w (w.setCell ⟨g, j, none⟩ x) := by
  have hrg : r ≠ g := fun e => h.vr (by rw [e]; rfl)
  have k2 : Sp [g] w (w.setCell ⟨g, j, none⟩ x) := (Sp.refl _ _).set g _ (by simp) _
  exact ⟨⟨(k2.block r (heap_lt h.h) (by simpa using hrg)).trans h.h, h.o.set j x e hl, OL.rx.sp h.t k2 (fun t ht e => h.vT g rfl (by simp at e; rw [← e]; exact ht)), h.br, h.vr, h.rT, h.vT⟩, k2.mono (fun t ht => by simp at ht; subst ht; exact dbl_v rfl)⟩
end
set_option maxRecDepth 100000 in
set_option maxHeartbeats 2000000 in
theorem dfind_any {w0 w : World} {r : Nat} {Y : List Nat} {D : DS} (h : DX w0 w r Y D) (hl : D.L.length ≤ 100000) (k j : Int) : Calls Tryd.prog 39 #[.pointer (some ⟨r, 0, none⟩), .int .i64 k, .int .i64 j] w fun e w' => ∃ z, e = .returned (.int .i64 z) ∧ Fc D.L k j z ∧ Kp w w' := by
  obtain ⟨tr, v, T, _, hB⟩ := h
  obtain ⟨_, _, c2, _⟩ := hB.cells
  obtain ⟨p, c, rfl, q1, q2⟩ := hB.o.shape
  obtain ⟨_, g, hp, _, hc, _⟩ := hB.o.cells
  obtain ⟨l, hL⟩ : ∃ l, l = D.L := ⟨_, rfl⟩
  rw [← hL] at c2 q1 hp hc hl ⊢
  obtain ⟨n, hn⟩ : ∃ n, n = l.length := ⟨_, rfl⟩
  rw [← hn] at c2 q1 hp hc hl
  have HN := hid hn
  have HC : Hid (∀ i, i < n → w.cell? ⟨g, i * 5, none⟩ = some (.int .i64 (l.getD i dc0).s) ∧ w.cell? ⟨g, i * 5 + 1, none⟩ = some (.int .i64 (l.getD i dc0).c)) := fun i hi => ⟨(hc i hi).1, (hc i hi).2.1⟩
  have HP := hid hp
  have HA := hid c2
  clear hB hL hn hc hp c2
  go_enter Tryd.func39, Tryd.ntmps39
  go_wp2
  go_loopw [7] (fun q wr => ∃ i : Nat, q = .int .i64 i ∧ i ≤ n ∧ Hid (∀ x ∈ l.take i, ¬ (x.s = k ∧ x.c = j)) ∧ Hid (Kp w wr)) (fun q _ => n - (intOf q).toNat)
  case atStart => exact ⟨0, rfl, by omega, (by simp : ∀ x ∈ l.take 0, ¬ (x.s = k ∧ x.c = j)), Kp.refl w⟩
  case round =>
    obtain ⟨i, rfl, hi, HI, HK⟩ := hrel
    rename World => wr
    have c2 := HK.out.held HA.out
    by_cases hin : i < n
    · obtain rfl := HP.out (by omega)
      have d0 := HK.out.held (HC.out i hin).1
      have d1 := HK.out.held (HC.out i hin).2
      have hil : i < l.length := by have := HN.out; omega
      obtain ⟨y, hy⟩ : ∃ y, y = (l.getD i dc0).s := ⟨_, rfl⟩
      obtain ⟨x, hx⟩ : ∃ y, y = (l.getD i dc0).c := ⟨_, rfl⟩
      rw [← hy] at d0
      rw [← hx] at d1
      have HY := hid (And.intro hy hx)
      have hi3 : (i : Int) < (n : Int) := by omega
      have HNo : ¬ (y = k ∧ x = j) → Hid (∀ x ∈ l.take (i + 1), ¬ (x.s = k ∧ x.c = j)) := fun hne => by
        show ∀ x ∈ l.take (i + 1), ¬ (x.s = k ∧ x.c = j)
        intro u hu
        rw [dc_take hil] at hu
        rcases List.mem_append.1 hu with hu | hu
        · exact HI.out u hu
        · rw [List.mem_singleton.1 hu, ← HY.out.1, ← HY.out.2]; exact hne
      have HNo := hid HNo
      clear hy hx
      by_cases hyb : y = k
      · have hd2 : (y == k) = true := by simp [hyb]
        by_cases hxb : x = j
        · have hd3 : (x == j) = true := by simp [hxb]
          have HYB := hid (And.intro hyb hxb)
          clear hyb hxb HNo
          go_wp2
          go_ret
          refine ⟨_, rfl, .inr ⟨l.take i, l.getD i dc0, l.drop (i + 1), dc_at hil, ?_, by rw [← HY.out.1]; exact HYB.out.1, by rw [← HY.out.2]; exact HYB.out.2⟩, HK.out⟩
          rw [List.length_take, Nat.min_eq_left (by omega)]
        · have hd3 : (x == j) = false := by simp [hxb]
          have HI2 := HNo.out (fun e => hxb e.2)
          clear hyb hxb HNo
          go_wp2
          go_roundw
          case rel => exact ⟨i + 1, by go_num, by omega, HI2, HK⟩
          case measure => simp [intOf]; omega
      · have hd2 : (y == k) = false := by simp [hyb]
        have HI2 := HNo.out (fun e => hyb e.1)
        clear hyb HNo
        go_wp2
        go_roundw
        case rel => exact ⟨i + 1, by go_num, by omega, HI2, HK⟩
        case measure => simp [intOf]; omega
    · obtain rfl : i = n := by omega
      go_wp2
      go_ret
      exact ⟨_, rfl, .inl ⟨rfl, fun x hx => HI.out x (by rw [List.take_of_length_le (by have := HN.out; omega)]; exact hx)⟩, HK.out⟩

end Go.Proofs.YtncdidklgpmefaaDoor

namespace Go.Proofs.YtncdidklgpmefaaDoor
open Go.RowKit Plain
set_option linter.unusedVariables false

theorem wn_cut : ∀ (m e : Nat) (f : Nat → Bool), (∀ j, m ≤ j → f j = false) → wn (m + e) f = wn m f
  | 0, e, f, h => by rw [wn_zero (0 + e) f (fun j _ => h j (by omega))]; rfl
  | m + 1, e, f, h => by
    rw [show m + 1 + e = (m + e) + 1 by omega]
    simp only [wn]
    rw [wn_cut m e (fun j => f (j + 1)) (fun j hj => h (j + 1) (by omega))]
def Cr (L : List DC) : Prop := L.Pairwise Ap ∧ ∀ x ∈ L, 0 ≤ x.c ∧ x.c < 30
theorem Cr.few {L : List DC} (h : Cr L) (k kind : Int) : clN L k kind < 1073741824 := by
  unfold clN
  rw [show (64 : Nat) = 30 + 34 from rfl, wn_cut 30 34 _ (fun j hj => by
    unfold clF
    rw [List.any_eq_false]
    intro x hx e
    rw [Bool.and_eq_true] at e
    have := (h.2 x hx).2
    have := of_decide_eq_true e.2
    omega)]
  exact wn_lt 30 _
theorem Cr.take {L : List DC} (h : Cr L) (i : Nat) : Cr (L.take i) := ⟨h.1.sublist (List.take_sublist i L), fun x hx => h.2 x (List.mem_of_mem_take hx)⟩
theorem Cr.ap {L : List DC} (h : Cr L) {i : Nat} (hi : i < L.length) : ∀ y ∈ L.take i, Ap y (L.getD i dc0) := by
  have := h.1
  rw [dc_at hi, List.pairwise_append] at this
  exact fun y hy => this.2.2 y hy _ (by simp)
theorem two_next (k : Nat) : 2 * (2 : Int) ^ k = 2 ^ (k + 1) := by rw [Int.pow_succ]; omega
theorem two_cast (k : Nat) : (((2 : Nat) ^ k : Nat) : Int) = 2 ^ k := by norm_cast
theorem two_small {k : Nat} (h : k ≤ 30) : (2 : Nat) ^ k ≤ 1073741824 := by
  have := Nat.pow_le_pow_right (n := 2) (by omega) h
  omega
set_option maxRecDepth 100000 in
set_option maxHeartbeats 4000000 in
theorem dcol_0 {w0 w : World} {r : Nat} {Y : List Nat} {D : DS} (h : DX w0 w r Y D) (hr : Cr D.L) (hl : D.L.length ≤ 100000) (k : Int) : Calls Tryd.prog 43 #[.pointer (some ⟨r, 0, none⟩), .int .i64 k, .int .i64 0] w fun e w' => e = .returned (.int .i64 (clN D.L k 0 : Nat)) ∧ Kp w w' := by
  obtain ⟨tr, v, T, _, hB⟩ := h
  obtain ⟨_, _, c2, _⟩ := hB.cells
  obtain ⟨p, c, rfl, q1, q2⟩ := hB.o.shape
  obtain ⟨_, g, hp, _, hc, _⟩ := hB.o.cells
  obtain ⟨l, hL⟩ : ∃ l, l = D.L := ⟨_, rfl⟩
  rw [← hL] at c2 q1 hp hc hl hr ⊢
  obtain ⟨n, hn⟩ : ∃ n, n = l.length := ⟨_, rfl⟩
  rw [← hn] at c2 q1 hp hc hl
  have HN := hid hn
  have HR := hid hr
  have HC := hid hc
  have HP := hid hp
  have HA := hid c2
  have HZ : Hid (clN (l.take 0) k 0 = 0) := clN_nil k 0
  obtain ⟨N0, hN0⟩ : ∃ z : Nat, z = 0 := ⟨_, rfl⟩
  clear hB hL hn hc hp c2 hr
  go_enter Tryd.func43, Tryd.ntmps43
  go_wp2
  go_loopw [7, 8, 9, 10, 11, 12] (fun sn si _ _ _ _ wr => ∃ (i N : Nat), sn = .int .i64 N ∧ si = .int .i64 i ∧ i ≤ n ∧ Hid (N = clN (l.take i) k 0) ∧ Hid (Kp w wr)) (fun _ q _ _ _ _ _ => n - (intOf q).toNat)
  case atStart => exact ⟨0, 0, rfl, rfl, by omega, HZ.out.symm, Kp.refl w⟩
  case round =>
    clear HZ hN0
    obtain ⟨i, N, rfl, rfl, hi, HV, HK⟩ := hrel
    rename World => wr
    have c2 := HK.out.held HA.out
    by_cases hin : i < n
    · obtain rfl := HP.out (by omega)
      have hil : i < l.length := by have := HN.out; omega
      obtain ⟨d0, d1, d2, d3, d4⟩ := HC.out i hin
      have d0 := HK.out.held d0
      have d1 := HK.out.held d1
      have d2 := HK.out.held d2
      have d3 := HK.out.held d3
      have d4 := HK.out.held d4
      obtain ⟨x, hx⟩ : ∃ x, x = l.getD i dc0 := ⟨_, rfl⟩
      rw [← hx] at d0 d1 d2 d3 d4
      obtain ⟨xs, xc0, xn, xo, xd⟩ := x
      have hxr := HR.out.2 _ (dc_mem hil)
      rw [← hx] at hxr
      obtain ⟨xc, rfl⟩ : ∃ z : Nat, xc0 = z := ⟨xc0.toNat, by have := hxr.1; simp only at this; omega⟩
      have hxc : xc < 30 := by have := hxr.2; simp only at this; omega
      have hx2 : xc < 64 := by omega
      have hap := HR.out.ap hil
      rw [← hx] at hap
      have hNb : N < 1073741824 := by rw [HV.out]; exact (HR.out.take i).few k 0
      have HS : Hid ((decide (xs = k) && isS xn) = false → N = clN (l.take (i + 1)) k 0) := fun e => by rw [HV.out, dc_take hil, ← hx, clN_skip e]
      have HT : Hid ((decide (xs = k) && isS xn) = true → N + 2 ^ xc = clN (l.take (i + 1)) k 0) := fun e => by rw [HV.out, dc_take hil, ← hx, clN_add e rfl hx2 hap]
      obtain ⟨V, hV⟩ : ∃ V, V = wr.alloc (.cells #[.int .i64 xs, .int .i64 (xc : Int), .string xn, .string xo, .bool xd] 84) := ⟨_, rfl⟩
      obtain ⟨H2, hH2⟩ : ∃ H, H = wr.heap.size := ⟨_, rfl⟩
      have e0 : V.cell? ⟨H2, 0, none⟩ = some (.int .i64 xs) := by rw [hV, hH2, World.cell?_alloc_at _ _ _ _ rfl]; rfl
      have e1 : V.cell? ⟨H2, 1, none⟩ = some (.int .i64 (xc : Int)) := by rw [hV, hH2, World.cell?_alloc_at _ _ _ _ rfl]; rfl
      have e2 : V.cell? ⟨H2, 2, none⟩ = some (.string xn) := by rw [hV, hH2, World.cell?_alloc_at _ _ _ _ rfl]; rfl
      have e3 : V.cell? ⟨H2, 3, none⟩ = some (.string xo) := by rw [hV, hH2, World.cell?_alloc_at _ _ _ _ rfl]; rfl
      have e4 : V.cell? ⟨H2, 4, none⟩ = some (.bool xd) := by rw [hV, hH2, World.cell?_alloc_at _ _ _ _ rfl]; rfl
      have HKV : Hid (Kp w V) := by rw [hV]; exact HK.out.alloc _
      have HVV : Hid (V = wr.alloc (.cells #[.int .i64 xs, .int .i64 (xc : Int), .string xn, .string xo, .bool xd] 84) ∧ H2 = wr.heap.size) := ⟨hV, hH2⟩
      have hin2 : (i : Int) < (n : Int) := by omega
      have hne1 := no_ne xn
      have hne2 := no_ne xo
      obtain ⟨b, hb⟩ : ∃ b, b = isS xn := ⟨_, rfl⟩
      rw [← hb] at HS HT
      have HB2 := hid hb.symm
      clear hxr hap hx hV hH2 HV HK hb hil
      go_upto_region 6 with fail
      rw [← HVV.out.1, ← HVV.out.2]
      have hb2 := HB2.out
      clear HVV HB2 d0 d1 d2 d3 d4
      by_cases hsk : xs = k
      · have hs2 : (xs == k) = true := by simp [hsk]
        cases b with
        | true =>
          have HT2 : Hid (N + 2 ^ xc = clN (l.take (i + 1)) k 0) := HT.out (by rw [decide_eq_true hsk]; rfl)
          clear HS HT hsk
          go_wp2
          go_loopw [11, 12] (fun sp si wz => ∃ m : Nat, sp = .int .i64 (2 ^ m) ∧ si = .int .i64 m ∧ m ≤ xc ∧ wz = V) (fun _ q _ => xc - (intOf q).toNat)
          case atStart => exact ⟨0, by go_num, rfl, by omega, rfl⟩
          case round =>
            obtain ⟨m, rfl, rfl, hm, hw⟩ := hrel
            rw [hw]
            clear hw
            have hp2 := two_small (k := m + 1) (by omega)
            have hp3 := two_cast (m + 1)
            have hp4 := two_next m
            obtain ⟨P, hP⟩ : ∃ P : Int, P = 2 ^ m := ⟨_, rfl⟩
            have hpz : 0 ≤ P := by rw [hP, ← two_cast]; exact Int.natCast_nonneg _
            rw [← hP] at hp4 ⊢
            by_cases hmx : m < xc
            · have hm2 : (m : Int) < (xc : Int) := by omega
              have hPb : 2 * P ≤ 1073741824 := by omega
              have HP4 := hid (And.intro hp4 hP)
              clear hp2 hp3 hp4 hP
              go_wp2
              go_roundw
              case rel => exact ⟨m + 1, by rw [← HP4.out.1], by go_num, by omega, trivial⟩
              case measure => simp [intOf]; omega
            · obtain rfl : m = xc := by omega
              have hPc : (N : Int) + P = ((N + 2 ^ m : Nat) : Int) := by rw [hP, ← two_cast]; omega
              have hPb : P ≤ 1073741824 := by rw [hP, ← two_cast]; have := two_small (k := m) (by omega); omega
              have HPc := hid hPc
              clear hp2 hp3 hp4 hP hPc
              go_wp2
              go_roundw
              case rel => exact ⟨i + 1, _, by rw [HPc.out], by go_num, by omega, HT2, HKV⟩
              case measure => simp [intOf]; omega
        | false =>
          have HS2 : Hid (N = clN (l.take (i + 1)) k 0) := HS.out (by rw [Bool.and_false])
          clear HS HT hsk
          go_wp2
          go_roundw
          case rel => exact ⟨i + 1, N, rfl, by go_num, by omega, HS2, HKV⟩
          case measure => simp [intOf]; omega
      · have hs2 : (xs == k) = false := by simp [hsk]
        have HS2 : Hid (N = clN (l.take (i + 1)) k 0) := HS.out (by rw [decide_eq_false hsk, Bool.false_and])
        clear HS HT hsk
        go_wp2
        go_roundw
        case rel => exact ⟨i + 1, N, rfl, by go_num, by omega, HS2, HKV⟩
        case measure => simp [intOf]; omega
    · obtain rfl : i = n := by omega
      have HE : Hid (N = clN l k 0 ∧ Kp w wr) := ⟨by rw [HV.out, List.take_of_length_le (by have := HN.out; omega)], HK.out⟩
      clear HV HK
      go_wp2
      go_ret
      exact ⟨by rw [← HE.out.1]; rfl, HE.out.2⟩
set_option maxRecDepth 100000 in
set_option maxHeartbeats 4000000 in
theorem dcol_1 {w0 w : World} {r : Nat} {Y : List Nat} {D : DS} (h : DX w0 w r Y D) (hr : Cr D.L) (hl : D.L.length ≤ 100000) (k : Int) : Calls Tryd.prog 43 #[.pointer (some ⟨r, 0, none⟩), .int .i64 k, .int .i64 1] w fun e w' => e = .returned (.int .i64 (clN D.L k 1 : Nat)) ∧ Kp w w' := by
  obtain ⟨tr, v, T, _, hB⟩ := h
  obtain ⟨_, _, c2, _⟩ := hB.cells
  obtain ⟨p, c, rfl, q1, q2⟩ := hB.o.shape
  obtain ⟨_, g, hp, _, hc, _⟩ := hB.o.cells
  obtain ⟨l, hL⟩ : ∃ l, l = D.L := ⟨_, rfl⟩
  rw [← hL] at c2 q1 hp hc hl hr ⊢
  obtain ⟨n, hn⟩ : ∃ n, n = l.length := ⟨_, rfl⟩
  rw [← hn] at c2 q1 hp hc hl
  have HN := hid hn
  have HR := hid hr
  have HC := hid hc
  have HP := hid hp
  have HA := hid c2
  have HZ : Hid (clN (l.take 0) k 1 = 0) := clN_nil k 1
  obtain ⟨N0, hN0⟩ : ∃ z : Nat, z = 0 := ⟨_, rfl⟩
  clear hB hL hn hc hp c2 hr
  go_enter Tryd.func43, Tryd.ntmps43
  go_wp2
  go_loopw [7, 8, 9, 10, 11, 12] (fun sn si _ _ _ _ wr => ∃ (i N : Nat), sn = .int .i64 N ∧ si = .int .i64 i ∧ i ≤ n ∧ Hid (N = clN (l.take i) k 1) ∧ Hid (Kp w wr)) (fun _ q _ _ _ _ _ => n - (intOf q).toNat)
  case atStart => exact ⟨0, 0, rfl, rfl, by omega, HZ.out.symm, Kp.refl w⟩
  case round =>
    clear HZ hN0
    obtain ⟨i, N, rfl, rfl, hi, HV, HK⟩ := hrel
    rename World => wr
    have c2 := HK.out.held HA.out
    by_cases hin : i < n
    · obtain rfl := HP.out (by omega)
      have hil : i < l.length := by have := HN.out; omega
      obtain ⟨d0, d1, d2, d3, d4⟩ := HC.out i hin
      have d0 := HK.out.held d0
      have d1 := HK.out.held d1
      have d2 := HK.out.held d2
      have d3 := HK.out.held d3
      have d4 := HK.out.held d4
      obtain ⟨x, hx⟩ : ∃ x, x = l.getD i dc0 := ⟨_, rfl⟩
      rw [← hx] at d0 d1 d2 d3 d4
      obtain ⟨xs, xc0, xn, xo, xd⟩ := x
      have hxr := HR.out.2 _ (dc_mem hil)
      rw [← hx] at hxr
      obtain ⟨xc, rfl⟩ : ∃ z : Nat, xc0 = z := ⟨xc0.toNat, by have := hxr.1; simp only at this; omega⟩
      have hxc : xc < 30 := by have := hxr.2; simp only at this; omega
      have hx2 : xc < 64 := by omega
      have hap := HR.out.ap hil
      rw [← hx] at hap
      have hNb : N < 1073741824 := by rw [HV.out]; exact (HR.out.take i).few k 1
      have HS : Hid ((decide (xs = k) && xd) = false → N = clN (l.take (i + 1)) k 1) := fun e => by rw [HV.out, dc_take hil, ← hx, clN_skip e]
      have HT : Hid ((decide (xs = k) && xd) = true → N + 2 ^ xc = clN (l.take (i + 1)) k 1) := fun e => by rw [HV.out, dc_take hil, ← hx, clN_add e rfl hx2 hap]
      obtain ⟨V, hV⟩ : ∃ V, V = wr.alloc (.cells #[.int .i64 xs, .int .i64 (xc : Int), .string xn, .string xo, .bool xd] 84) := ⟨_, rfl⟩
      obtain ⟨H2, hH2⟩ : ∃ H, H = wr.heap.size := ⟨_, rfl⟩
      have e0 : V.cell? ⟨H2, 0, none⟩ = some (.int .i64 xs) := by rw [hV, hH2, World.cell?_alloc_at _ _ _ _ rfl]; rfl
      have e1 : V.cell? ⟨H2, 1, none⟩ = some (.int .i64 (xc : Int)) := by rw [hV, hH2, World.cell?_alloc_at _ _ _ _ rfl]; rfl
      have e2 : V.cell? ⟨H2, 2, none⟩ = some (.string xn) := by rw [hV, hH2, World.cell?_alloc_at _ _ _ _ rfl]; rfl
      have e3 : V.cell? ⟨H2, 3, none⟩ = some (.string xo) := by rw [hV, hH2, World.cell?_alloc_at _ _ _ _ rfl]; rfl
      have e4 : V.cell? ⟨H2, 4, none⟩ = some (.bool xd) := by rw [hV, hH2, World.cell?_alloc_at _ _ _ _ rfl]; rfl
      have HKV : Hid (Kp w V) := by rw [hV]; exact HK.out.alloc _
      have HVV : Hid (V = wr.alloc (.cells #[.int .i64 xs, .int .i64 (xc : Int), .string xn, .string xo, .bool xd] 84) ∧ H2 = wr.heap.size) := ⟨hV, hH2⟩
      have hin2 : (i : Int) < (n : Int) := by omega
      have hne1 := no_ne xn
      have hne2 := no_ne xo
      obtain ⟨b, hb⟩ : ∃ b, b = xd := ⟨_, rfl⟩
      rw [← hb] at HS HT
      have HB2 := hid hb.symm
      clear hxr hap hx hV hH2 HV HK hb hil
      go_upto_region 6 with fail
      rw [← HVV.out.1, ← HVV.out.2]
      have hb2 := HB2.out
      clear HVV HB2 d0 d1 d2 d3 d4
      by_cases hsk : xs = k
      · have hs2 : (xs == k) = true := by simp [hsk]
        cases b with
        | true =>
          have HT2 : Hid (N + 2 ^ xc = clN (l.take (i + 1)) k 1) := HT.out (by rw [decide_eq_true hsk]; rfl)
          clear HS HT hsk
          go_wp2
          go_loopw [11, 12] (fun sp si wz => ∃ m : Nat, sp = .int .i64 (2 ^ m) ∧ si = .int .i64 m ∧ m ≤ xc ∧ wz = V) (fun _ q _ => xc - (intOf q).toNat)
          case atStart => exact ⟨0, by go_num, rfl, by omega, rfl⟩
          case round =>
            obtain ⟨m, rfl, rfl, hm, hw⟩ := hrel
            rw [hw]
            clear hw
            have hp2 := two_small (k := m + 1) (by omega)
            have hp3 := two_cast (m + 1)
            have hp4 := two_next m
            obtain ⟨P, hP⟩ : ∃ P : Int, P = 2 ^ m := ⟨_, rfl⟩
            have hpz : 0 ≤ P := by rw [hP, ← two_cast]; exact Int.natCast_nonneg _
            rw [← hP] at hp4 ⊢
            by_cases hmx : m < xc
            · have hm2 : (m : Int) < (xc : Int) := by omega
              have hPb : 2 * P ≤ 1073741824 := by omega
              have HP4 := hid (And.intro hp4 hP)
              clear hp2 hp3 hp4 hP
              go_wp2
              go_roundw
              case rel => exact ⟨m + 1, by rw [← HP4.out.1], by go_num, by omega, trivial⟩
              case measure => simp [intOf]; omega
            · obtain rfl : m = xc := by omega
              have hPc : (N : Int) + P = ((N + 2 ^ m : Nat) : Int) := by rw [hP, ← two_cast]; omega
              have hPb : P ≤ 1073741824 := by rw [hP, ← two_cast]; have := two_small (k := m) (by omega); omega
              have HPc := hid hPc
              clear hp2 hp3 hp4 hP hPc
              go_wp2
              go_roundw
              case rel => exact ⟨i + 1, _, by rw [HPc.out], by go_num, by omega, HT2, HKV⟩
              case measure => simp [intOf]; omega
        | false =>
          have HS2 : Hid (N = clN (l.take (i + 1)) k 1) := HS.out (by rw [Bool.and_false])
          clear HS HT hsk
          go_wp2
          go_roundw
          case rel => exact ⟨i + 1, N, rfl, by go_num, by omega, HS2, HKV⟩
          case measure => simp [intOf]; omega
      · have hs2 : (xs == k) = false := by simp [hsk]
        have HS2 : Hid (N = clN (l.take (i + 1)) k 1) := HS.out (by rw [decide_eq_false hsk, Bool.false_and])
        clear HS HT hsk
        go_wp2
        go_roundw
        case rel => exact ⟨i + 1, N, rfl, by go_num, by omega, HS2, HKV⟩
        case measure => simp [intOf]; omega
    · obtain rfl : i = n := by omega
      have HE : Hid (N = clN l k 1 ∧ Kp w wr) := ⟨by rw [HV.out, List.take_of_length_le (by have := HN.out; omega)], HK.out⟩
      clear HV HK
      go_wp2
      go_ret
      exact ⟨by rw [← HE.out.1]; rfl, HE.out.2⟩
set_option maxRecDepth 100000 in
set_option maxHeartbeats 4000000 in
theorem dcol_2 {w0 w : World} {r : Nat} {Y : List Nat} {D : DS} (h : DX w0 w r Y D) (hr : Cr D.L) (hl : D.L.length ≤ 100000) (k : Int) : Calls Tryd.prog 43 #[.pointer (some ⟨r, 0, none⟩), .int .i64 k, .int .i64 2] w fun e w' => e = .returned (.int .i64 (clN D.L k 2 : Nat)) ∧ Kp w w' := by
  obtain ⟨tr, v, T, _, hB⟩ := h
  obtain ⟨_, _, c2, _⟩ := hB.cells
  obtain ⟨p, c, rfl, q1, q2⟩ := hB.o.shape
  obtain ⟨_, g, hp, _, hc, _⟩ := hB.o.cells
  obtain ⟨l, hL⟩ : ∃ l, l = D.L := ⟨_, rfl⟩
  rw [← hL] at c2 q1 hp hc hl hr ⊢
  obtain ⟨n, hn⟩ : ∃ n, n = l.length := ⟨_, rfl⟩
  rw [← hn] at c2 q1 hp hc hl
  have HN := hid hn
  have HR := hid hr
  have HC := hid hc
  have HP := hid hp
  have HA := hid c2
  have HZ : Hid (clN (l.take 0) k 2 = 0) := clN_nil k 2
  obtain ⟨N0, hN0⟩ : ∃ z : Nat, z = 0 := ⟨_, rfl⟩
  clear hB hL hn hc hp c2 hr
  go_enter Tryd.func43, Tryd.ntmps43
  go_wp2
  go_loopw [7, 8, 9, 10, 11, 12] (fun sn si _ _ _ _ wr => ∃ (i N : Nat), sn = .int .i64 N ∧ si = .int .i64 i ∧ i ≤ n ∧ Hid (N = clN (l.take i) k 2) ∧ Hid (Kp w wr)) (fun _ q _ _ _ _ _ => n - (intOf q).toNat)
  case atStart => exact ⟨0, 0, rfl, rfl, by omega, HZ.out.symm, Kp.refl w⟩
  case round =>
    clear HZ hN0
    obtain ⟨i, N, rfl, rfl, hi, HV, HK⟩ := hrel
    rename World => wr
    have c2 := HK.out.held HA.out
    by_cases hin : i < n
    · obtain rfl := HP.out (by omega)
      have hil : i < l.length := by have := HN.out; omega
      obtain ⟨d0, d1, d2, d3, d4⟩ := HC.out i hin
      have d0 := HK.out.held d0
      have d1 := HK.out.held d1
      have d2 := HK.out.held d2
      have d3 := HK.out.held d3
      have d4 := HK.out.held d4
      obtain ⟨x, hx⟩ : ∃ x, x = l.getD i dc0 := ⟨_, rfl⟩
      rw [← hx] at d0 d1 d2 d3 d4
      obtain ⟨xs, xc0, xn, xo, xd⟩ := x
      have hxr := HR.out.2 _ (dc_mem hil)
      rw [← hx] at hxr
      obtain ⟨xc, rfl⟩ : ∃ z : Nat, xc0 = z := ⟨xc0.toNat, by have := hxr.1; simp only at this; omega⟩
      have hxc : xc < 30 := by have := hxr.2; simp only at this; omega
      have hx2 : xc < 64 := by omega
      have hap := HR.out.ap hil
      rw [← hx] at hap
      have hNb : N < 1073741824 := by rw [HV.out]; exact (HR.out.take i).few k 2
      have HS : Hid ((decide (xs = k) && isS xo) = false → N = clN (l.take (i + 1)) k 2) := fun e => by rw [HV.out, dc_take hil, ← hx, clN_skip e]
      have HT : Hid ((decide (xs = k) && isS xo) = true → N + 2 ^ xc = clN (l.take (i + 1)) k 2) := fun e => by rw [HV.out, dc_take hil, ← hx, clN_add e rfl hx2 hap]
      obtain ⟨V, hV⟩ : ∃ V, V = wr.alloc (.cells #[.int .i64 xs, .int .i64 (xc : Int), .string xn, .string xo, .bool xd] 84) := ⟨_, rfl⟩
      obtain ⟨H2, hH2⟩ : ∃ H, H = wr.heap.size := ⟨_, rfl⟩
      have e0 : V.cell? ⟨H2, 0, none⟩ = some (.int .i64 xs) := by rw [hV, hH2, World.cell?_alloc_at _ _ _ _ rfl]; rfl
      have e1 : V.cell? ⟨H2, 1, none⟩ = some (.int .i64 (xc : Int)) := by rw [hV, hH2, World.cell?_alloc_at _ _ _ _ rfl]; rfl
      have e2 : V.cell? ⟨H2, 2, none⟩ = some (.string xn) := by rw [hV, hH2, World.cell?_alloc_at _ _ _ _ rfl]; rfl
      have e3 : V.cell? ⟨H2, 3, none⟩ = some (.string xo) := by rw [hV, hH2, World.cell?_alloc_at _ _ _ _ rfl]; rfl
      have e4 : V.cell? ⟨H2, 4, none⟩ = some (.bool xd) := by rw [hV, hH2, World.cell?_alloc_at _ _ _ _ rfl]; rfl
      have HKV : Hid (Kp w V) := by rw [hV]; exact HK.out.alloc _
      have HVV : Hid (V = wr.alloc (.cells #[.int .i64 xs, .int .i64 (xc : Int), .string xn, .string xo, .bool xd] 84) ∧ H2 = wr.heap.size) := ⟨hV, hH2⟩
      have hin2 : (i : Int) < (n : Int) := by omega
      have hne1 := no_ne xn
      have hne2 := no_ne xo
      obtain ⟨b, hb⟩ : ∃ b, b = isS xo := ⟨_, rfl⟩
      rw [← hb] at HS HT
      have HB2 := hid hb.symm
      clear hxr hap hx hV hH2 HV HK hb hil
      go_upto_region 6 with fail
      rw [← HVV.out.1, ← HVV.out.2]
      have hb2 := HB2.out
      clear HVV HB2 d0 d1 d2 d3 d4
      by_cases hsk : xs = k
      · have hs2 : (xs == k) = true := by simp [hsk]
        cases b with
        | true =>
          have HT2 : Hid (N + 2 ^ xc = clN (l.take (i + 1)) k 2) := HT.out (by rw [decide_eq_true hsk]; rfl)
          clear HS HT hsk
          go_wp2
          go_loopw [11, 12] (fun sp si wz => ∃ m : Nat, sp = .int .i64 (2 ^ m) ∧ si = .int .i64 m ∧ m ≤ xc ∧ wz = V) (fun _ q _ => xc - (intOf q).toNat)
          case atStart => exact ⟨0, by go_num, rfl, by omega, rfl⟩
          case round =>
            obtain ⟨m, rfl, rfl, hm, hw⟩ := hrel
            rw [hw]
            clear hw
            have hp2 := two_small (k := m + 1) (by omega)
            have hp3 := two_cast (m + 1)
            have hp4 := two_next m
            obtain ⟨P, hP⟩ : ∃ P : Int, P = 2 ^ m := ⟨_, rfl⟩
            have hpz : 0 ≤ P := by rw [hP, ← two_cast]; exact Int.natCast_nonneg _
            rw [← hP] at hp4 ⊢
            by_cases hmx : m < xc
            · have hm2 : (m : Int) < (xc : Int) := by omega
              have hPb : 2 * P ≤ 1073741824 := by omega
              have HP4 := hid (And.intro hp4 hP)
              clear hp2 hp3 hp4 hP
              go_wp2
              go_roundw
              case rel => exact ⟨m + 1, by rw [← HP4.out.1], by go_num, by omega, trivial⟩
              case measure => simp [intOf]; omega
            · obtain rfl : m = xc := by omega
              have hPc : (N : Int) + P = ((N + 2 ^ m : Nat) : Int) := by rw [hP, ← two_cast]; omega
              have hPb : P ≤ 1073741824 := by rw [hP, ← two_cast]; have := two_small (k := m) (by omega); omega
              have HPc := hid hPc
              clear hp2 hp3 hp4 hP hPc
              go_wp2
              go_roundw
              case rel => exact ⟨i + 1, _, by rw [HPc.out], by go_num, by omega, HT2, HKV⟩
              case measure => simp [intOf]; omega
        | false =>
          have HS2 : Hid (N = clN (l.take (i + 1)) k 2) := HS.out (by rw [Bool.and_false])
          clear HS HT hsk
          go_wp2
          go_roundw
          case rel => exact ⟨i + 1, N, rfl, by go_num, by omega, HS2, HKV⟩
          case measure => simp [intOf]; omega
      · have hs2 : (xs == k) = false := by simp [hsk]
        have HS2 : Hid (N = clN (l.take (i + 1)) k 2) := HS.out (by rw [decide_eq_false hsk, Bool.false_and])
        clear HS HT hsk
        go_wp2
        go_roundw
        case rel => exact ⟨i + 1, N, rfl, by go_num, by omega, HS2, HKV⟩
        case measure => simp [intOf]; omega
    · obtain rfl : i = n := by omega
      have HE : Hid (N = clN l k 2 ∧ Kp w wr) := ⟨by rw [HV.out, List.take_of_length_le (by have := HN.out; omega)], HK.out⟩
      clear HV HK
      go_wp2
      go_ret
      exact ⟨by rw [← HE.out.1]; rfl, HE.out.2⟩

end Go.Proofs.YtncdidklgpmefaaDoor

namespace Go.Proofs.YtncdidklgpmefaaDoor
open Go.RowKit Plain
set_option linter.unusedVariables false

/-- the document's cache beside a cache. -/
structure Dl (C : CS) (D : DS) : Prop where
  r : Rl C.S D.R
  W : D.W = C.W
  h : Rc D.L C.H
  c0 : 0 ≤ D.R.c
theorem Dl.cr {C : CS} {D : DS} (h : Dl C D) (hi : Ci C) : Cr D.L := ⟨h.h.nd, fun x hx => by
  obtain ⟨q1, _, _, q4⟩ := h.h.at_ x hx
  by_cases e : 0 ≤ x.c ∧ x.c < C.W
  · have := hi.w2; omega
  · rw [q1, ((hi.ok x.s).out x.c e).1, isS_no] at q4; cases q4⟩
theorem Dl.clN {C : CS} {D : DS} (h : Dl C D) (hi : Ci C) (k kind : Int) : clN D.L k kind = wn 64 (kdF (C.H k) kind) := h.h.clN (fun k => ⟨_, hi.ok k⟩) k kind
/-- behind a call of the document's. -/
def Dz (w0 w w' : World) (r : Nat) (Y : List Nat) (C' : CS) (c : Int) (m : Nat) : Prop := ∃ D', Dl C' D' ∧ D'.R.c ≤ c ∧ D'.L.length ≤ m ∧ Nz DX w0 w w' r Y D'
theorem wn_dirty (H : Hd) (W : Int) (hok : HOk W H) (hw : W ≤ 30) : (decide (wn 64 (kdF H 1) ≠ 0)) = dyH H := by
  have hk : kdF H 1 = sdF H.d := by
    unfold kdF
    rw [if_neg (by decide), if_pos rfl]
  rw [hk]
  unfold dyH
  cases e : emB (sdF H.d) with
  | true =>
    have : wn 64 (sdF H.d) = 0 := wn_zero 64 _ (fun j hj => eqB_iff e j (by omega))
    rw [this]; rfl
  | false =>
    have : wn 64 (sdF H.d) ≠ 0 := fun h => by
      have h2 : emB (sdF H.d) = true := emB_of (fun i hi => by
        by_cases a : i < 64
        · exact wn_zero_iff 64 _ h i a
        · unfold sdF
          exact (hok.out (i : Int) (by omega)).2.2)
      rw [h2] at e; cases e
    rw [decide_eq_true this]; rfl
set_option maxRecDepth 100000 in
set_option maxHeartbeats 4000000 in
theorem ddirty {w0 w : World} {r : Nat} {Y : List Nat} {D : DS} {C : CS} (h : DX w0 w r Y D) (hd : Dl C D) (hi : Ci C) (hl : D.L.length ≤ 100000) : Calls Tryd.prog 45 #[.pointer (some ⟨r, 0, none⟩)] w fun e w' => ∃ v, e = .returned v ∧ OwnI w' w.heap.size v ((fl 64 (dyS C)).map Int.ofNat) ∧ Kp w w' := by
  have HH := hid (And.intro h (And.intro (hd.cr hi) (And.intro hl (And.intro hd hi))))
  have hN : ∀ t : Nat, t < 64 → (decide (clN D.L t 1 ≠ 0)) = dyS C t := fun t ht => by
    rw [hd.clN hi]
    exact wn_dirty _ _ (hi.ok t) hi.w2
  have HN := hid hN
  have H0 : Hid (OwnI w w.heap.size (.slice none 0 0) ((fl 0 (dyS C)).map Int.ofNat) ∧ Kp w w) := ⟨⟨rfl, .inl ⟨rfl, rfl⟩⟩, Kp.refl w⟩
  clear h hd hi hl hN
  go_enter Tryd.func45, Tryd.ntmps45
  go_wp2
  go_loopw [3, 4, 5] (fun q i _ wr => ∃ (t : Nat) (u : Value), u = q ∧ i = .int .i64 t ∧ t ≤ 64 ∧ Hid (OwnI wr w.heap.size u ((fl t (dyS C)).map Int.ofNat) ∧ Kp w wr)) (fun _ i _ _ => 64 - (intOf i).toNat)
  case atStart => exact ⟨0, _, rfl, rfl, by omega, H0⟩
  case round =>
    clear H0
    obtain ⟨t, q, rfl, rfl, ht, HT⟩ := hrel
    rename World => wr
    by_cases h64 : t < 64
    · have hC := dcol_1 (HH.out.1.kept HT.out.2) HH.out.2.1 HH.out.2.2.1 (t : Int)
      obtain ⟨N, hNe⟩ : ∃ N, N = clN D.L t 1 := ⟨_, rfl⟩
      have hdy := HN.out t h64
      rw [← hNe] at hC hdy
      have HD := hid hdy
      clear hNe hdy
      go_wp2_with fail
      refine hC.mono ?_; rintro e w1 ⟨rfl, k1⟩
      have HT1 : Hid (OwnI w1 w.heap.size q ((fl t (dyS C)).map Int.ofNat) ∧ Kp w w1) := ⟨HT.out.1.kept k1, HT.out.2.trans k1⟩
      clear hC k1 HT
      by_cases h0 : N = 0
      · have hd0 : ((N : Int) != 0) = false := by rw [h0]; rfl
        have HT2 : Hid (OwnI w1 w.heap.size q ((fl (t + 1) (dyS C)).map Int.ofNat) ∧ Kp w w1) := by
          have : dyS C t = false := by rw [← HD.out, h0]; rfl
          rw [show fl (t + 1) (dyS C) = fl t (dyS C) from by show (if dyS C t then _ else _) = _; rw [this, if_neg (by decide)]]
          exact HT1.out
        clear HT1 HD h0
        go_wp2
        go_roundw
        case rel => exact ⟨t + 1, _, rfl, by go_num, by omega, HT2⟩
        case measure => simp [intOf]; omega
      · have hd0 : ((N : Int) != 0) = true := by simp; omega
        have HE : Hid (fl (t + 1) (dyS C) = fl t (dyS C) ++ [t] ∧ (fl t (dyS C)).length ≤ 64) := by
          have : dyS C t = true := by rw [← HD.out]; exact decide_eq_true h0
          exact ⟨by show (if dyS C t then _ else _) = _; rw [this, if_pos rfl], by have := fl_le t (dyS C); omega⟩
        clear HD h0
        go_wp2_with (at_builtin; refine wpList_append_nums rfl _ _ 36 rfl Tryd.underlying36 w.heap.size _ ((fl t (dyS C)).map Int.ofNat) rfl (HT1.out.1.kept ((Kp.refl _).alloc _)) _ [(t : Int)] rfl (InI.one _ (t : Int) _ _ rfl) ?c1 ?c2 ?_; rotate_left; rotate_left; intro v' w8 ho2 hg2 hr2)
        case c1 => have := HE.out.2; simp; omega
        case c2 => have := HT1.out.2.size; simp; omega
        have HT2 : Hid (OwnI w8 w.heap.size v' ((fl (t + 1) (dyS C)).map Int.ofNat) ∧ Kp w w8) := by
          rw [HE.out.1, List.map_append]
          refine ⟨ho2, (HT1.out.2.trans ((Kp.refl w1).alloc _)).grown hg2 (fun z hz => (HT1.out.1.lt z hz).1)⟩
        clear ho2 hg2 hr2 HT1 HE
        go_roundw
        case rel => exact ⟨t + 1, _, rfl, by go_num, by omega, HT2⟩
        case measure => simp [intOf]; omega
    · obtain rfl : t = 64 := by omega
      go_wp2
      go_ret
      exact ⟨_, rfl, HT.out.1, HT.out.2⟩

theorem RX.sz0 {w0 w : World} {a : Nat} {T : List Nat} {R : RS} (h : RX w0 w a T R) : w0.heap.size ≤ w.heap.size := by
  obtain ⟨_, _, h⟩ := h
  exact h.sz
def OneC (w0 w : World) (p : Value) (l : List DC) : Prop := OwC w w0.heap.size p l ∧ Kp w0 w
theorem OneC.grow {w0 w w1 w' : World} {p p' : Value} {l l' : List DC} (h : OneC w0 w p l) (k : Kp w w1) (hg : w1.grownBy w' p.ownBlock) (ho : OwC w' w0.heap.size p' l') : OneC w0 w' p' l' :=
  ⟨ho, (h.2.trans k).grown hg (fun q hq => (h.1.lt q hq).1)⟩
theorem OwC.slc {w : World} {base : Nat} {v : Value} {l : List DC} (h : OwC w base v l) : ∃ p n c, v = .slice p n c := by
  obtain ⟨p, c, rfl, _⟩ := h.shape
  exact ⟨_, _, _, rfl⟩
set_option maxRecDepth 100000 in
set_option maxHeartbeats 4000000 in
theorem dout {w0 w : World} {r : Nat} {Y : List Nat} {D : DS} {C : CS} (h : DX w0 w r Y D) (hd : Dl C D) (hg : Gd C.S) (hl : D.L.length ≤ 1000) (k : Int) (hin : inT C.S k = true) : Calls Tryd.prog 44 #[.pointer (some ⟨r, 0, none⟩), .int .i64 k] w fun e w' => e = .returned (.tuple #[]) ∧ Dz w0 w w' r Y { C with S := drS C.S k, H := upH C.H k hd0 } D.R.c D.L.length := by
  obtain ⟨tr, T, hx, c0, hup⟩ := h.turn
  have hT := rdrop_any hx hd.r hg hd.c0 k
  rw [hin] at hT
  have HH := hid (And.intro hd (And.intro hl hup))
  clear h hd hg hl hx hup hin
  go_enter Tryd.func44, Tryd.ntmps44
  go_wp2_with fail
  refine hT.mono ?_; rintro e w1 ⟨rfl, R', rl, rc0, rc, z⟩
  obtain ⟨Y1, ⟨tr1, v, T1, hY1, hB⟩, s1, n1⟩ := HH.out.2.2 w1 R' z
  have HR : Hid (Rl (drS C.S k) R' ∧ 0 ≤ R'.c ∧ R'.c ≤ D.R.c) := ⟨rl, rc0, rc⟩
  obtain ⟨_, _, c2, _⟩ := hB.cells
  obtain ⟨p, c, hvs, q1, q2⟩ := hB.o.shape
  rw [hvs] at c2
  have hO := hB.o
  rw [hvs] at hO
  obtain ⟨_, g, hp, _, hcs, _⟩ := hO.cells
  obtain ⟨l, hL⟩ : ∃ l, l = D.L := ⟨_, rfl⟩
  have hl := HH.out.2.1
  have hO2 : OwC w1 w0.heap.size (.slice p D.L.length c) D.L := hO
  have c2 : w1.cell? ⟨r, 2, none⟩ = some (.slice p D.L.length c) := c2
  have q1 : D.L.length ≤ c := q1
  have hcs : ∀ i, i < D.L.length → _ := hcs
  have hp : 0 < D.L.length → _ := hp
  rw [← hL] at c2 q1 hp hcs hl
  obtain ⟨n, hn⟩ : ∃ n, n = l.length := ⟨_, rfl⟩
  rw [← hn] at c2 q1 hp hcs hl
  have HN := hid (And.intro hn (And.intro hL (And.intro hY1 (And.intro hB (And.intro s1 n1)))))
  have HC := hid hcs
  have HP := hid hp
  have HA := hid c2
  have H0 : Hid (OneC w1 w1 (.slice none 0 0) (otL k (l.take 0))) := ⟨by simpa [otL] using OwC.nil w1 w1.heap.size, Kp.refl w1⟩
  clear hT z rl rc0 rc hB hO hO2 hvs hcs hp hL hn hY1 s1 n1 c0
  go_wp2
  clear c2
  go_loopw [4, 5] (fun q x wr => ∃ (j : Nat) (q' : Value), x = .int .i64 j ∧ q' = q ∧ j ≤ n ∧ Hid (OneC w1 wr q' (otL k (l.take j)))) (fun _ x _ => n - (intOf x).toNat)
  case atStart => exact ⟨0, _, rfl, rfl, by omega, H0⟩
  case round =>
    clear H0
    obtain ⟨j, q, rfl, rfl, hj, HT⟩ := hrel
    rename World => wr
    have c2 := HT.out.2.held HA.out
    by_cases hjn : j < n
    · obtain rfl := HP.out (by omega)
      have hjn2 : (j : Int) < (n : Int) := by omega
      have hjl : j < l.length := by have := HN.out.1; omega
      obtain ⟨d0, d1, d2, d3, d4⟩ := HC.out j hjn
      have d0 := HT.out.2.held d0
      have d1 := HT.out.2.held d1
      have d2 := HT.out.2.held d2
      have d3 := HT.out.2.held d3
      have d4 := HT.out.2.held d4
      have hnx := otL_next (k := k) hjl
      obtain ⟨x, hx⟩ : ∃ x, x = l.getD j dc0 := ⟨_, rfl⟩
      rw [← hx] at d0 d1 d2 d3 d4 hnx
      have HLn : Hid ((otL k (l.take j)).length ≤ 1000) := by
        have := otL_len k (l.take j)
        rw [List.length_take] at this
        show _ ≤ 1000
        omega
      have HNX := hid hnx
      clear hx hnx hjl
      by_cases hxk : x.s = k
      · have hd : (x.s != k) = false := by simp [hxk]
        have HT2 : Hid (OneC w1 wr q (otL k (l.take (j + 1)))) := by rw [HNX.out, if_pos hxk]; exact HT.out
        clear hxk HT HNX
        go_wp2
        go_roundw
        case rel => exact ⟨j + 1, _, by go_num, rfl, by omega, HT2⟩
        case measure => simp [intOf]; omega
      · have hd : (x.s != k) = true := by simp [hxk]
        have HE : Hid (otL k (l.take (j + 1)) = otL k (l.take j) ++ [x]) := by rw [HNX.out, if_neg hxk]; rfl
        clear hxk HNX
        go_wp2_with (at_builtin; refine wpList_append_dc rfl _ _ rfl w1.heap.size _ (otL k (l.take j)) rfl (HT.out.1.kept ((Kp.refl _).alloc _)) x _ rfl (lit_dc wr x _ _ rfl) (by have := HLn.out; omega) (by have := HT.out.2.size; simp; omega) ?_; intro u2 w2 ho2 hg2 hr2; have HT1 := hid (HT.out.grow ((Kp.refl wr).alloc (.cells #[.int .i64 x.s, .int .i64 x.c, .string x.n, .string x.o, .bool x.d] 84)) hg2 ho2); clear ho2 hg2 hr2)
        have HT3 : Hid (OneC w1 w2 u2 (otL k (l.take (j + 1)))) := by rw [HE.out]; exact HT1.out
        clear HT1 HT HE HLn d0 d1 d2 d3 d4
        go_roundw
        case rel => exact ⟨j + 1, _, by go_num, rfl, by omega, HT3⟩
        case measure => simp [intOf]; omega
    · obtain rfl : j = n := by omega
      have hT1 : l.take j = l := List.take_of_length_le (by have := HN.out.1; omega)
      have hq := HT.out
      rw [hT1] at hq
      obtain ⟨hn, hL, hY1, hB, s1, n1⟩ := HN.out
      rw [hL] at hq
      obtain ⟨o1, k1⟩ := hq
      have z2 := hB.setL (w2 := wr) (k1.sp _) (o1.mono hB.t.sz0) (.inr (fun N hN => (o1.lt N hN).1))
      have fz := (hB.sp (k1.sp []) (fun _ _ h => by cases h)).cells.2.2.2 2
      obtain ⟨pq, nq, cq, rfl⟩ := o1.slc
      have HE : Hid (Dz w0 w (wr.setCell ⟨r, 2, none⟩ (.slice pq nq cq)) r Y { C with S := drS C.S k, H := upH C.H k hd0 } D.R.c D.L.length) := by
        rw [← hY1] at z2
        exact ⟨{ D with R := R', L := otL k D.L }, ⟨HR.out.1, HH.out.1.W, HH.out.1.h.gone k, HR.out.2.1⟩, HR.out.2.2, otL_len k D.L, Nz.next s1 n1 z2⟩
      clear hT1 hn hL hY1 hB s1 n1 o1 k1 z2 HT
      go_wp2
      go_end0
      exact ⟨rfl, HE.out⟩
set_option maxRecDepth 100000 in
theorem dnew_ok {m z d : Int} (h : newOk m z) (h1 : 2 ≤ d) (h2 : d ≤ 30) (w0 w : World) (k0 : w0.heap.size ≤ w.heap.size) : Calls Tryd.prog 6 #[.int .i64 m, .int .i64 z, .int .i64 d] w fun e w' => ∃ r Y D, e = .returned (.tuple #[.pointer (some ⟨r, 0, none⟩), .int .i64 0]) ∧ DX w0 w' r Y D ∧ Dl (newC m z d) D ∧ D.R.c = 0 ∧ D.L = [] ∧ Kp w w' ∧ ∀ t ∈ Y, w.heap.size ≤ t := by
  have hN := rnew_ok w0 m z h w k0
  clear h
  go_enter Tryd.func6, Tryd.ntmps6
  go_wp2_with fail
  refine hN.mono ?_; rintro e w1 ⟨a, T, rfl, hx, k1, hT⟩
  have HU := hid (And.intro hx (And.intro k1 hT))
  clear hN hx k1 hT
  go_wp2
  go_ret2
  have kp1 : Kp w1 (w1.alloc (.cells #[.pointer (some ⟨a, 0, none⟩), .int .i64 d, .slice none 0 0] 61)) := (Kp.refl w1).alloc _
  obtain ⟨hx, k1, hT⟩ := HU.out
  have hs := k1.size
  refine ⟨w1.heap.size, dbl w1.heap.size (.slice none 0 0) T, ⟨⟨m, z, [], 0⟩, [], d⟩, rfl, ⟨a, .slice none 0 0, T, rfl, ⟨new_obj _ _ _, OwC.nil _ _, hx.kept kp1, by omega, by simp [Value.ownBlock], fun ht => by have := OL.rx.low hx _ ht; omega, fun g hg => by simp [Value.ownBlock] at hg⟩⟩, ⟨Rl.new m z, rfl, Rc.new, Int.le_refl _⟩, rfl, rfl, k1.trans kp1, fun t ht => ?_⟩
  rcases dbl_in ht with rfl | ht | ht
  · exact hs
  · simp [Value.ownBlock] at ht
  · exact hT t ht
set_option maxRecDepth 100000 in
set_option maxHeartbeats 1000000 in
theorem dnew_no {m z d : Int} (h : ¬ (newOk m z ∧ 2 ≤ d ∧ d ≤ 30)) (w : World) : Calls Tryd.prog 6 #[.int .i64 m, .int .i64 z, .int .i64 d] w fun e w' => e = .returned (.tuple #[.pointer none, .int .i64 2]) ∧ Kp w w' := by
  by_cases hn : newOk m z
  · have hN := rnew_ok w m z hn w (Nat.le_refl _)
    have hd : d < 2 ∨ (2 ≤ d ∧ 30 < d) := by
      by_cases e : d < 2
      · exact .inl e
      · exact .inr ⟨by omega, by by_cases e2 : 30 < d; exact e2; exact absurd ⟨hn, by omega, by omega⟩ h⟩
    clear h hn
    rcases hd with hd | ⟨hd1, hd2⟩
    · go_enter Tryd.func6, Tryd.ntmps6
      go_wp2_with fail
      refine hN.mono ?_; rintro e w1 ⟨a, T, rfl, _, k1, _⟩
      clear hN
      go_wp2
      go_ret2
      exact ⟨rfl, k1⟩
    · go_enter Tryd.func6, Tryd.ntmps6
      go_wp2_with fail
      refine hN.mono ?_; rintro e w1 ⟨a, T, rfl, _, k1, _⟩
      clear hN
      go_wp2
      go_ret2
      exact ⟨rfl, k1⟩
  · have hN := rnew_no m z hn w
    clear h hn
    go_enter Tryd.func6, Tryd.ntmps6
    go_wp2_with fail
    refine hN.mono ?_; rintro e w1 ⟨rfl, k1⟩
    clear hN
    go_wp2
    go_ret2
    exact ⟨rfl, k1⟩

end Go.Proofs.YtncdidklgpmefaaDoor

namespace Go.Proofs.YtncdidklgpmefaaDoor
open Go.RowKit Plain
set_option linter.unusedVariables false

/-- behind an open that is OK: the place of the column's cell, and what it may be turned to. -/
def Dop (w0 w w' : World) (r : Nat) (Y : List Nat) (C : CS) (k j : Int) (c : Int) (m : Nat) (z : Int) : Prop :=
  ∃ D' A y B, D'.L = A ++ y :: B ∧ z = (A.length : Int) ∧ y.s = k ∧ y.c = j ∧ y.n = (C.H k).n j ∧ y.o = (C.H k).o j ∧ y.d = (C.H k).d j ∧
    (∀ (y' : DC) (H'' : Int → Hd), y'.s = k → y'.c = j → (y'.n = (H'' k).n j ∧ y'.o = (H'' k).o j ∧ y'.d = (H'' k).d j ∧ isS y'.n = true) → (∀ a b, ¬ (a = k ∧ b = j) → (H'' a).n b = (C.H a).n b ∧ (H'' a).o b = (C.H a).o b ∧ (H'' a).d b = (C.H a).d b) → Rc (A ++ y' :: B) H'') ∧
    Rl C.S D'.R ∧ D'.W = C.W ∧ 0 ≤ D'.R.c ∧ D'.R.c ≤ c ∧ D'.L.length ≤ m ∧ Nz DX w0 w w' r Y D'
theorem Dz.kp {w0 w w1 w' : World} {r : Nat} {Y : List Nat} {C : CS} {c : Int} {m : Nat} (h : Dz w0 w w1 r Y C c m) (k : Kp w1 w') : Dz w0 w w' r Y C c m := by
  obtain ⟨D', h1, h2, h3, h4⟩ := h
  exact ⟨D', h1, h2, h3, Nz.kp OL.dx h4 k⟩
theorem Dz.refl {w0 w : World} {r : Nat} {Y : List Nat} {D : DS} {C : CS} (h : DX w0 w r Y D) (hd : Dl C D) : Dz w0 w w r Y C D.R.c D.L.length := ⟨D, hd, Int.le_refl _, Nat.le_refl _, Nz.refl h⟩
theorem Dz.of_kp {w0 w w' : World} {r : Nat} {Y : List Nat} {D : DS} {C : CS} (h : DX w0 w r Y D) (hd : Dl C D) (k : Kp w w') : Dz w0 w w' r Y C D.R.c D.L.length := (Dz.refl h hd).kp k
theorem Dz.mono {w0 w w' : World} {r : Nat} {Y : List Nat} {C : CS} {c c' : Int} {m m' : Nat} (h : Dz w0 w w' r Y C c m) (hc : c ≤ c') (hm : m ≤ m') : Dz w0 w w' r Y C c' m' := by
  obtain ⟨D', h1, h2, h3, h4⟩ := h
  exact ⟨D', h1, Int.le_trans h2 hc, Nat.le_trans h3 hm, h4⟩
/-- a call on the turn. -/
theorem Dl.turn {w0 w w' : World} {r tr : Nat} {Y T : List Nat} {D : DS} {C : CS} {S' : TS} {c : Int} (hd : Dl C D) (hup : ∀ w' R', Nz RX w0 w w' tr T R' → Nz DX w0 w w' r Y { D with R := R' }) (z : Rz w0 w w' tr T S' c) : Dz w0 w w' r Y { C with S := S' } c D.L.length := by
  obtain ⟨R', q1, q2, q3, q4⟩ := z
  exact ⟨{ D with R := R' }, ⟨q1, hd.W, hd.h, q2⟩, q3, Nat.le_refl _, hup w' R' q4⟩
theorem Dz.next {w0 w w1 w' : World} {r : Nat} {Y : List Nat} {C C' : CS} {c c' : Int} {m m' : Nat} (h : Dz w0 w w1 r Y C c m) (f : ∀ D1 Y1, Dl C D1 → D1.R.c ≤ c → D1.L.length ≤ m → DX w0 w1 r Y1 D1 → Dz w0 w1 w' r Y1 C' c' m') : Dz w0 w w' r Y C' c' m' := by
  obtain ⟨D1, h1, h2, h3, Y1, h4, s1, n1⟩ := h
  obtain ⟨D2, g1, g2, g3, g4⟩ := f D1 Y1 h1 h2 h3 h4
  exact ⟨D2, g1, g2, g3, Nz.next s1 n1 g4⟩

/-! ### refused -/
set_option maxRecDepth 100000 in
set_option maxHeartbeats 4000000 in
theorem dopen_rf {w0 w : World} {r : Nat} {Y : List Nat} {D : DS} {C : CS} (h : DX w0 w r Y D) (hd : Dl C D) (k j : Int) (s : ByteArray) (he : rfE C k j s.size ≠ 0) : Calls Tryd.prog 38 #[.pointer (some ⟨r, 0, none⟩), .int .i64 k, .int .i64 j, .string s] w fun e w' => e = .returned (.tuple #[.int .i64 0, .int .i64 (rfE C k j s.size)]) ∧ Kp w w' := by
  obtain ⟨tr, v, T, _, hB⟩ := h
  obtain ⟨_, c1, _, _⟩ := hB.cells
  obtain ⟨W, hW⟩ : ∃ W, W = D.W := ⟨_, rfl⟩
  have hWC : W = C.W := hW.trans hd.W
  rw [← hW] at c1
  obtain ⟨n, hn⟩ : ∃ n, n = s.size := ⟨_, rfl⟩
  rw [← hn] at he ⊢
  have HN := hid hn
  have HR : ∀ E, (if k < 0 ∨ 64 ≤ k ∨ j < 0 ∨ W ≤ j then 3 else if n ≠ 64 then 4 else 0) = E → rfE C k j n = E := fun E e => by unfold rfE; rw [← hWC]; exact e
  have HL : ∀ (t : TypeId) (V : World), (Builtin.len_ #[9] t #[.string s]).run Tryd.prog V = .ok (.int .i64 (n : Int)) V := fun t V => by rw [HN.out]; rfl
  by_cases h1 : k < 0
  · rw [HR 3 (if_pos (.inl h1))]
    clear hB hd hW hWC hn HR he
    go_enter Tryd.func38, Tryd.ntmps38
    go_wp2
    go_ret2
    exact ⟨rfl, Kp.refl w⟩
  · by_cases h2 : 64 ≤ k
    · rw [HR 3 (if_pos (.inr (.inl h2)))]
      clear hB hd hW hWC hn HR he
      go_enter Tryd.func38, Tryd.ntmps38
      go_wp2
      go_ret2
      exact ⟨rfl, Kp.refl w⟩
    · by_cases h3 : j < 0
      · rw [HR 3 (if_pos (.inr (.inr (.inl h3))))]
        clear hB hd hW hWC hn HR he
        go_enter Tryd.func38, Tryd.ntmps38
        go_wp2
        go_ret2
        exact ⟨rfl, Kp.refl w⟩
      · by_cases h4 : W ≤ j
        · rw [HR 3 (if_pos (.inr (.inr (.inr h4))))]
          clear hB hd hW hWC hn HR he
          go_enter Tryd.func38, Tryd.ntmps38
          go_wp2
          go_ret2
          exact ⟨rfl, Kp.refl w⟩
        · by_cases h5 : n = 64
          · exact absurd (HR 0 (by rw [if_neg (by omega), if_neg (by omega)])) he
          · rw [HR 4 (by rw [if_neg (by omega), if_pos (by omega)])]
            have h6 : ((n : Int) != 64) = true := by simp; omega
            clear hB hd hW hWC hn HR he h5
            go_enter Tryd.func38, Tryd.ntmps38
            go_wp2
            go_ret2
            exact ⟨rfl, Kp.refl w⟩

/-! ### done -/
set_option maxRecDepth 100000 in
set_option maxHeartbeats 8000000 in
theorem dopen_ok {w0 w : World} {r : Nat} {Y : List Nat} {D : DS} {C : CS} (h : DX w0 w r Y D) (hd : Dl C D) (hi : Ci C) (hg : Gd C.S) (hl : D.L.length ≤ 500) (hcm : D.R.c ≤ 10000) (k j : Int) (s : ByteArray) (hrf : rfE C k j s.size = 0) (hus : usE C k = 0) : Calls Tryd.prog 38 #[.pointer (some ⟨r, 0, none⟩), .int .i64 k, .int .i64 j, .string s] w fun e w' => ∃ z, e = .returned (.tuple #[.int .i64 z, .int .i64 0]) ∧ Dop w0 w w' r Y (usC C k) k j (D.R.c + 2) (D.L.length + 1) z := by
  obtain ⟨tr, T, hx, c0, hup⟩ := h.turn
  obtain ⟨⟨hk1, hk2⟩, ⟨hj1, hj2⟩, hn⟩ := rf_ok.1 hrf
  obtain ⟨tr', v', T', hY, hB⟩ := h
  obtain ⟨_, c1, _, _⟩ := hB.cells
  have h : DX w0 w r Y D := ⟨tr', v', T', hY, hB⟩
  obtain ⟨W, hW⟩ : ∃ W, W = D.W := ⟨_, rfl⟩
  rw [← hd.W, ← hW] at hj2
  rw [← hW] at c1
  have hlen := hd.r.len
  have hRl : D.R.L.length ≤ 64 := by have := hg.len; have := hg.m2; omega
  have hF := rfind_any hx (by omega) k
  have HL : ∀ (t : TypeId) (V : World), (Builtin.len_ #[9] t #[.string s]).run Tryd.prog V = .ok (.int .i64 64) V := fun t V => by
    have : (Builtin.len_ #[9] t #[.string s]).run Tryd.prog V = .ok (.int .i64 (s.size : Int)) V := rfl
    rw [this, hn]; rfl
  have HH : Hid (Dl C D ∧ Ci C ∧ D.L.length ≤ 500 ∧ D.R.c ≤ 10000 ∧ Gd C.S ∧ RX w0 w tr T D.R ∧ (∀ w' R', Nz RX w0 w w' tr T R' → Nz DX w0 w w' r Y { D with R := R' }) ∧ DX w0 w r Y D ∧ usE C k = 0) := ⟨hd, hi, hl, hcm, hg, hx, hup, h, hus⟩
  clear hY hB h hd hi hg hl hcm hrf hus hx hup hW hn hlen
  go_enter Tryd.func38, Tryd.ntmps38
  go_wp2_with fail
  refine hF.mono ?_; rintro e w1 ⟨z0, rfl, hz, rfl⟩
  clear hF
  rcases fr_in HH.out.1.r hz with ⟨rfl, hin⟩ | ⟨hz0, hin, _⟩
  · have hcu : usC C k = { plC C with S := adS (plC C).S k } := by
      unfold usC
      rw [hin, if_neg (by decide), if_pos HH.out.2.2.2.2.2.2.2.2]
    have HUS := hid hcu
    have HGP : Hid (Gd (plC C).S) := (HH.out.2.1.place HH.out.2.2.2.2.1).2
    obtain ⟨vR, hTR, hBR⟩ := HH.out.2.2.2.2.2.1
    obtain ⟨m0, _, m2, _, _⟩ := hBR.cells
    obtain ⟨pR, cR, hvR, _, _⟩ := hBR.o.shape
    rw [hvR] at m2
    obtain ⟨nk, hnk⟩ : ∃ n, n = D.R.L.length := ⟨_, rfl⟩
    obtain ⟨M, hM⟩ : ∃ M, M = D.R.M := ⟨_, rfl⟩
    rw [← hnk] at m2 hRl
    rw [← hM] at m0
    have hfb : decide (M ≤ (nk : Int)) = fulB C.S := by
      unfold fulB
      rw [hM, hnk, HH.out.1.r.M, HH.out.1.r.len]
      exact decide_eq_decide.2 (by omega)
    have HFB := hid hfb
    have hve : fulB C.S = true → ∃ v, vcO C.S = some v := fun e => by
      have h := HH.out.2.2.2.2.2.2.2.2
      unfold usE at h
      rw [hin, if_neg (by decide), e, if_pos rfl] at h
      cases hv : vcO C.S with
      | some v => exact ⟨v, rfl⟩
      | none => rw [hv] at h; exact absurd h (by decide)
    have HVE := hid hve
    clear hz hin hcu hBR hTR hvR hnk hM hfb hve
    by_cases hfull : M ≤ (nk : Int)
    · have hd1 : decide (M ≤ (nk : Int)) = true := by simp [hfull]
      obtain ⟨vv, hvv⟩ := HVE.out (by rw [← HFB.out]; exact hd1)
      have HPC : Hid (plC C = { C with S := drS C.S vv, H := upH C.H vv hd0 } ∧ inT C.S vv = true) := by
        refine ⟨?_, in_iff.2 (vc_in hvv).1⟩
        unfold plC
        rw [← HFB.out, hd1, if_pos rfl, hvv]
      have hVic : ∀ wx, Kp w1 wx → Calls Tryd.prog 60 #[.pointer (some ⟨tr, 0, none⟩)] wx fun e w' => e = .returned (.tuple #[.int .i64 vv, .bool true]) ∧ Kp wx w' := fun wx kx => by
        have := rvictim_any (HH.out.2.2.2.2.2.1.kept kx) HH.out.1.r HH.out.2.2.2.2.1
        unfold vcK at this
        rw [hvv] at this
        exact this
      clear HFB HVE hfull hvv
      go_upto_region 8 with fail
      go_quiet (fail)
      rename_i nq
      obtain ⟨wd, hwd⟩ : ∃ z, z = w1.drewN nq := ⟨_, rfl⟩
      have kd : Kp w1 wd := by rw [hwd]; exact (Kp.refl w1).drewN nq
      rw [← hwd]
      have c0 := kd.held c0
      have hVd := hVic wd kd
      have HKD := hid kd
      clear hwd kd m0 m2 hVic c1
      go_wp2_with fail
      refine hVd.mono ?_; rintro e wv ⟨rfl, kv⟩
      have kv2 := HKD.out.trans kv
      have hO := dout (HH.out.2.2.2.2.2.2.2.1.kept kv2) HH.out.1 HH.out.2.2.2.2.1 (by have := HH.out.2.2.1; omega) vv HPC.out.2
      have HKV := hid kv2
      clear hVd kv kv2 HKD c0
      go_wp2_with fail
      refine hO.mono ?_; rintro e wo ⟨rfl, zO⟩
      have HPL : Hid (Dz w0 w1 wo r Y (plC C) D.R.c D.L.length) := by
        rw [HPC.out.1]
        obtain ⟨D5, g1, g2, g3, g4⟩ := zO
        exact ⟨D5, g1, g2, g3, Nz.next (HKV.out.sp _) (Nw.refl _ _) g4⟩
      clear hO zO
      obtain ⟨D2, p1, p2, p3, Y2, px, t1, m1⟩ := HPL.out
      obtain ⟨tr3, T3, hx3, c3, hup3⟩ := px.turn
      have hA := radd_any hx3 p1.r HGP.out p1.c0 (by have := HH.out.2.2.2.1; omega) k
      have HP1 := hid (And.intro p1 (And.intro p2 (And.intro p3 (And.intro t1 (And.intro m1 hup3)))))
      clear p1 p2 p3 px t1 m1 hx3 hup3 HPL
      go_wp2_with fail
      refine hA.mono ?_; rintro e w5 ⟨rfl, zA⟩
      have HS : Hid (Dz w0 w1 w5 r Y (usC C k) (D.R.c + 2) D.L.length) := by
        have q := HP1.out.1.turn HP1.out.2.2.2.2.2 zA
        rw [HUS.out]
        obtain ⟨D5, g1, g2, g3, g4⟩ := q
        exact ⟨D5, g1, by have := HP1.out.2.1; omega, Nat.le_trans g3 HP1.out.2.2.1, Nz.next HP1.out.2.2.2.1 HP1.out.2.2.2.2.1 g4⟩
      clear hA zA c3
      obtain ⟨D1, d1, dc, dm, Y1, dx, s1, n1⟩ := HS.out
      have hF := dfind_any dx (by have := HH.out.2.2.1; omega) k j
      have HS1 := hid (And.intro d1 (And.intro dc (And.intro dm (And.intro dx (And.intro s1 n1)))))
      clear d1 dc dm dx s1 n1 HS
      go_wp2_with fail
      refine hF.mono ?_; rintro e wf ⟨z, rfl, hz, kf⟩
      have HZ := hid (And.intro hz kf)
      clear hF kf
      have HCU : Hid (Ci (usC C k)) := (HH.out.2.1.use HH.out.2.2.2.2.1 ⟨hk1, hk2⟩).1
      rcases hz with ⟨rfl, hno⟩ | ⟨A, y, B, eL, rfl, ys, yc⟩
      · obtain ⟨tr2, v, T2, hY2, hB⟩ := HS1.out.2.2.2.1
        have hBf := hB.sp (HZ.out.2.sp []) (fun _ _ h => by cases h)
        obtain ⟨_, _, c2, _⟩ := hBf.cells
        have HBf := hid (And.intro hBf (And.intro hY2 hno))
        obtain ⟨p, c, hvs, q1, q2⟩ := hBf.o.shape
        rw [hvs] at c2
        obtain ⟨N, hN⟩ : ∃ N, N = D1.L.length := ⟨_, rfl⟩
        rw [← hN] at c2 hvs q1
        have hNb : N ≤ 500 := by have := HH.out.2.2.1; have := HS1.out.2.2.1; omega
        have HNN := hid hN
        clear hB hBf hno hY2 hN
        go_wp2_with (at_builtin; refine wpList_append_dc rfl _ _ rfl w0.heap.size _ D1.L (by rw [hvs]; rfl) (HBf.out.1.o.kept ((Kp.refl _).alloc _)) ⟨k, j, ByteArray.empty, ByteArray.empty, false⟩ _ rfl (lit_dc wf ⟨k, j, ByteArray.empty, ByteArray.empty, false⟩ _ _ rfl) (by have := HNN.out; omega) (by have := HBf.out.1.t.sz0; simp; omega) ?_; intro u2 w2' ho2 hg2 hr2; obtain ⟨pu, nu, cu, rfl⟩ := ho2.slc; obtain rfl : nu = N + 1 := (by have := ho2.cells.1; rw [HNN.out]; simpa using this); have hsp : Sp v.ownBlock.toList wf w2' := (((Kp.refl wf).alloc (.cells #[.int .i64 k, .int .i64 j, .string ByteArray.empty, .string ByteArray.empty, .bool false] 84)).sp _).trans (grown_sp hg2); have hst := HBf.out.1.setL (w2 := w2') hsp ho2 (by rcases hr2 with e | e; exact .inl e; exact .inr (fun N hN => by rw [e] at hN; simp at hN; omega)); have d2 := hsp.held (HBf.out.1.cells.2.2.1) (fun e => HBf.out.1.vr (by simpa using e)); have d2f := (hsp.frozen (heap_lt HBf.out.1.h) (fun e => HBf.out.1.vr (by simpa using e)) 2).trans (HBf.out.1.cells.2.2.2 2); have HST := hid hst; clear ho2 hg2 hr2 hsp hst)
        go_ret2
        refine ⟨(N : Int), by simp, { D1 with L := D1.L ++ [⟨k, j, ByteArray.empty, ByteArray.empty, false⟩] }, D1.L, ⟨k, j, ByteArray.empty, ByteArray.empty, false⟩, [], rfl, by rw [HNN.out], rfl, rfl, ?_, ?_, ?_, fun y' H'' e1 e2 hy hH => ?_, HS1.out.1.r, HS1.out.1.W, HS1.out.1.c0, HS1.out.2.1, ?_, ?_⟩
        · exact (no_of (HS1.out.1.h.no HBf.out.2.2)).symm
        · rcases (HCU.out.ok k).so j with e | e
          · exact e.symm
          · have := isS_of ((HCU.out.ok k).on j e)
            rw [HS1.out.1.h.no HBf.out.2.2] at this; cases this
        · have h0 := HS1.out.1.h.no HBf.out.2.2
          cases e : ((usC C k).H k).d j with
          | false => rfl
          | true =>
            have := isS_of ((HCU.out.ok k).dn j e)
            rw [h0] at this; cases this
        · subst e1; subst e2
          exact HS1.out.1.h.push HBf.out.2.2 hy hH
        · rw [List.length_append]
          have := HS1.out.2.2.1
          simp
          omega
        · have z2 := HST.out
          rw [← HBf.out.2.1] at z2
          exact Nz.next HS1.out.2.2.2.2.1 HS1.out.2.2.2.2.2 (Nz.next (HZ.out.2.sp _) (Nw.refl _ _) z2)
      · obtain ⟨i, hi⟩ : ∃ i, i = A.length := ⟨_, rfl⟩
        rw [← hi]
        have hi0 : decide ((i : Int) < 0) = false := by simp
        have HE := hid (And.intro eL (And.intro ys (And.intro yc hi)))
        clear eL ys yc hi
        go_wp2
        go_ret2
        obtain ⟨eL, ys, yc, hi⟩ := HE.out
        obtain ⟨q1, q2, q3, q4⟩ := HS1.out.1.h.at_ y (by rw [eL]; simp)
        rw [ys, yc] at q1 q2 q3
        refine ⟨(i : Int), by simp, D1, A, y, B, eL, by rw [hi], ys, yc, q1, q2, q3, fun y' H'' e1 e2 hy hH => ?_, HS1.out.1.r, HS1.out.1.W, HS1.out.1.c0, HS1.out.2.1, Nat.le_succ_of_le HS1.out.2.2.1, Nz.kp OL.dx ⟨_, HS1.out.2.2.2.1, HS1.out.2.2.2.2.1, HS1.out.2.2.2.2.2⟩ HZ.out.2⟩
        exact HS1.out.1.h.turn eL (e1.trans ys.symm) (e2.trans yc.symm) (by rw [ys, yc]; exact hy) (fun a b h => hH a b (fun e => h ⟨by rw [ys]; exact e.1, by rw [yc]; exact e.2⟩))
    · have hd1 : decide (M ≤ (nk : Int)) = false := by simp; omega
      have HPL0 : Hid (∀ wx, Kp w1 wx → Dz w0 w1 wx r Y (plC C) D.R.c D.L.length) := fun wx kx => by
        have : plC C = C := by unfold plC; rw [← HFB.out, hd1, if_neg (by decide)]
        rw [this]
        exact Dz.of_kp HH.out.2.2.2.2.2.2.2.1 HH.out.1 kx
      clear HFB HVE hfull
      go_upto_region 8 with fail
      go_quiet (fail)
      rename_i nq
      obtain ⟨wd, hwd⟩ : ∃ z, z = w1.drewN nq := ⟨_, rfl⟩
      have kd : Kp w1 wd := by rw [hwd]; exact (Kp.refl w1).drewN nq
      rw [← hwd]
      have HPL := hid (HPL0.out wd kd)
      clear hwd kd m0 m2 c1 HPL0 c0
      obtain ⟨D2, p1, p2, p3, Y2, px, t1, m1⟩ := HPL.out
      obtain ⟨tr3, T3, hx3, c3, hup3⟩ := px.turn
      have hA := radd_any hx3 p1.r HGP.out p1.c0 (by have := HH.out.2.2.2.1; omega) k
      have HP1 := hid (And.intro p1 (And.intro p2 (And.intro p3 (And.intro t1 (And.intro m1 hup3)))))
      clear p1 p2 p3 px t1 m1 hx3 hup3 HPL
      go_wp2_with fail
      refine hA.mono ?_; rintro e w5 ⟨rfl, zA⟩
      have HS : Hid (Dz w0 w1 w5 r Y (usC C k) (D.R.c + 2) D.L.length) := by
        have q := HP1.out.1.turn HP1.out.2.2.2.2.2 zA
        rw [HUS.out]
        obtain ⟨D5, g1, g2, g3, g4⟩ := q
        exact ⟨D5, g1, by have := HP1.out.2.1; omega, Nat.le_trans g3 HP1.out.2.2.1, Nz.next HP1.out.2.2.2.1 HP1.out.2.2.2.2.1 g4⟩
      clear hA zA c3
      obtain ⟨D1, d1, dc, dm, Y1, dx, s1, n1⟩ := HS.out
      have hF := dfind_any dx (by have := HH.out.2.2.1; omega) k j
      have HS1 := hid (And.intro d1 (And.intro dc (And.intro dm (And.intro dx (And.intro s1 n1)))))
      clear d1 dc dm dx s1 n1 HS
      go_wp2_with fail
      refine hF.mono ?_; rintro e wf ⟨z, rfl, hz, kf⟩
      have HZ := hid (And.intro hz kf)
      clear hF kf
      have HCU : Hid (Ci (usC C k)) := (HH.out.2.1.use HH.out.2.2.2.2.1 ⟨hk1, hk2⟩).1
      rcases hz with ⟨rfl, hno⟩ | ⟨A, y, B, eL, rfl, ys, yc⟩
      · obtain ⟨tr2, v, T2, hY2, hB⟩ := HS1.out.2.2.2.1
        have hBf := hB.sp (HZ.out.2.sp []) (fun _ _ h => by cases h)
        obtain ⟨_, _, c2, _⟩ := hBf.cells
        have HBf := hid (And.intro hBf (And.intro hY2 hno))
        obtain ⟨p, c, hvs, q1, q2⟩ := hBf.o.shape
        rw [hvs] at c2
        obtain ⟨N, hN⟩ : ∃ N, N = D1.L.length := ⟨_, rfl⟩
        rw [← hN] at c2 hvs q1
        have hNb : N ≤ 500 := by have := HH.out.2.2.1; have := HS1.out.2.2.1; omega
        have HNN := hid hN
        clear hB hBf hno hY2 hN
        go_wp2_with (at_builtin; refine wpList_append_dc rfl _ _ rfl w0.heap.size _ D1.L (by rw [hvs]; rfl) (HBf.out.1.o.kept ((Kp.refl _).alloc _)) ⟨k, j, ByteArray.empty, ByteArray.empty, false⟩ _ rfl (lit_dc wf ⟨k, j, ByteArray.empty, ByteArray.empty, false⟩ _ _ rfl) (by have := HNN.out; omega) (by have := HBf.out.1.t.sz0; simp; omega) ?_; intro u2 w2' ho2 hg2 hr2; obtain ⟨pu, nu, cu, rfl⟩ := ho2.slc; obtain rfl : nu = N + 1 := (by have := ho2.cells.1; rw [HNN.out]; simpa using this); have hsp : Sp v.ownBlock.toList wf w2' := (((Kp.refl wf).alloc (.cells #[.int .i64 k, .int .i64 j, .string ByteArray.empty, .string ByteArray.empty, .bool false] 84)).sp _).trans (grown_sp hg2); have hst := HBf.out.1.setL (w2 := w2') hsp ho2 (by rcases hr2 with e | e; exact .inl e; exact .inr (fun N hN => by rw [e] at hN; simp at hN; omega)); have d2 := hsp.held (HBf.out.1.cells.2.2.1) (fun e => HBf.out.1.vr (by simpa using e)); have d2f := (hsp.frozen (heap_lt HBf.out.1.h) (fun e => HBf.out.1.vr (by simpa using e)) 2).trans (HBf.out.1.cells.2.2.2 2); have HST := hid hst; clear ho2 hg2 hr2 hsp hst)
        go_ret2
        refine ⟨(N : Int), by simp, { D1 with L := D1.L ++ [⟨k, j, ByteArray.empty, ByteArray.empty, false⟩] }, D1.L, ⟨k, j, ByteArray.empty, ByteArray.empty, false⟩, [], rfl, by rw [HNN.out], rfl, rfl, ?_, ?_, ?_, fun y' H'' e1 e2 hy hH => ?_, HS1.out.1.r, HS1.out.1.W, HS1.out.1.c0, HS1.out.2.1, ?_, ?_⟩
        · exact (no_of (HS1.out.1.h.no HBf.out.2.2)).symm
        · rcases (HCU.out.ok k).so j with e | e
          · exact e.symm
          · have := isS_of ((HCU.out.ok k).on j e)
            rw [HS1.out.1.h.no HBf.out.2.2] at this; cases this
        · have h0 := HS1.out.1.h.no HBf.out.2.2
          cases e : ((usC C k).H k).d j with
          | false => rfl
          | true =>
            have := isS_of ((HCU.out.ok k).dn j e)
            rw [h0] at this; cases this
        · subst e1; subst e2
          exact HS1.out.1.h.push HBf.out.2.2 hy hH
        · rw [List.length_append]
          have := HS1.out.2.2.1
          simp
          omega
        · have z2 := HST.out
          rw [← HBf.out.2.1] at z2
          exact Nz.next HS1.out.2.2.2.2.1 HS1.out.2.2.2.2.2 (Nz.next (HZ.out.2.sp _) (Nw.refl _ _) z2)
      · obtain ⟨i, hi⟩ : ∃ i, i = A.length := ⟨_, rfl⟩
        rw [← hi]
        have hi0 : decide ((i : Int) < 0) = false := by simp
        have HE := hid (And.intro eL (And.intro ys (And.intro yc hi)))
        clear eL ys yc hi
        go_wp2
        go_ret2
        obtain ⟨eL, ys, yc, hi⟩ := HE.out
        obtain ⟨q1, q2, q3, q4⟩ := HS1.out.1.h.at_ y (by rw [eL]; simp)
        rw [ys, yc] at q1 q2 q3
        refine ⟨(i : Int), by simp, D1, A, y, B, eL, by rw [hi], ys, yc, q1, q2, q3, fun y' H'' e1 e2 hy hH => ?_, HS1.out.1.r, HS1.out.1.W, HS1.out.1.c0, HS1.out.2.1, Nat.le_succ_of_le HS1.out.2.2.1, Nz.kp OL.dx ⟨_, HS1.out.2.2.2.1, HS1.out.2.2.2.2.1, HS1.out.2.2.2.2.2⟩ HZ.out.2⟩
        exact HS1.out.1.h.turn eL (e1.trans ys.symm) (e2.trans yc.symm) (by rw [ys, yc]; exact hy) (fun a b h => hH a b (fun e => h ⟨by rw [ys]; exact e.1, by rw [yc]; exact e.2⟩))
  · have hT := rtouch_any HH.out.2.2.2.2.2.1 HH.out.1.r HH.out.2.2.2.2.1 HH.out.1.c0 (by have := HH.out.2.2.2.1; omega) k
    have hcu : usC C k = { C with S := toS C.S k } := by unfold usC; rw [hin]; rfl
    have HU := hid hcu
    clear hz hcu hin
    go_wp2_with fail
    refine hT.mono ?_; rintro e w2 ⟨rfl, z⟩
    have HS : Hid (Dz w0 w1 w2 r Y (usC C k) (D.R.c + 2) D.L.length) := by
      rw [HU.out]
      exact HH.out.1.turn HH.out.2.2.2.2.2.2.1 z
    clear hT z
    clear c0
    obtain ⟨D1, d1, dc, dm, Y1, dx, s1, n1⟩ := HS.out
    have hF := dfind_any dx (by have := HH.out.2.2.1; omega) k j
    have HS1 := hid (And.intro d1 (And.intro dc (And.intro dm (And.intro dx (And.intro s1 n1)))))
    clear d1 dc dm dx s1 n1 HS
    go_wp2_with fail
    refine hF.mono ?_; rintro e wf ⟨z, rfl, hz, kf⟩
    have HZ := hid (And.intro hz kf)
    clear hF kf
    have HCU : Hid (Ci (usC C k)) := (HH.out.2.1.use HH.out.2.2.2.2.1 ⟨hk1, hk2⟩).1
    rcases hz with ⟨rfl, hno⟩ | ⟨A, y, B, eL, rfl, ys, yc⟩
    · obtain ⟨tr2, v, T2, hY2, hB⟩ := HS1.out.2.2.2.1
      have hBf := hB.sp (HZ.out.2.sp []) (fun _ _ h => by cases h)
      obtain ⟨_, _, c2, _⟩ := hBf.cells
      have HBf := hid (And.intro hBf (And.intro hY2 hno))
      obtain ⟨p, c, hvs, q1, q2⟩ := hBf.o.shape
      rw [hvs] at c2
      obtain ⟨N, hN⟩ : ∃ N, N = D1.L.length := ⟨_, rfl⟩
      rw [← hN] at c2 hvs q1
      have hNb : N ≤ 500 := by have := HH.out.2.2.1; have := HS1.out.2.2.1; omega
      have HNN := hid hN
      clear hB hBf hno hY2 hN
      go_wp2_with (at_builtin; refine wpList_append_dc rfl _ _ rfl w0.heap.size _ D1.L (by rw [hvs]; rfl) (HBf.out.1.o.kept ((Kp.refl _).alloc _)) ⟨k, j, ByteArray.empty, ByteArray.empty, false⟩ _ rfl (lit_dc wf ⟨k, j, ByteArray.empty, ByteArray.empty, false⟩ _ _ rfl) (by have := HNN.out; omega) (by have := HBf.out.1.t.sz0; simp; omega) ?_; intro u2 w2' ho2 hg2 hr2; obtain ⟨pu, nu, cu, rfl⟩ := ho2.slc; obtain rfl : nu = N + 1 := (by have := ho2.cells.1; rw [HNN.out]; simpa using this); have hsp : Sp v.ownBlock.toList wf w2' := (((Kp.refl wf).alloc (.cells #[.int .i64 k, .int .i64 j, .string ByteArray.empty, .string ByteArray.empty, .bool false] 84)).sp _).trans (grown_sp hg2); have hst := HBf.out.1.setL (w2 := w2') hsp ho2 (by rcases hr2 with e | e; exact .inl e; exact .inr (fun N hN => by rw [e] at hN; simp at hN; omega)); have d2 := hsp.held (HBf.out.1.cells.2.2.1) (fun e => HBf.out.1.vr (by simpa using e)); have d2f := (hsp.frozen (heap_lt HBf.out.1.h) (fun e => HBf.out.1.vr (by simpa using e)) 2).trans (HBf.out.1.cells.2.2.2 2); have HST := hid hst; clear ho2 hg2 hr2 hsp hst)
      go_ret2
      refine ⟨(N : Int), by simp, { D1 with L := D1.L ++ [⟨k, j, ByteArray.empty, ByteArray.empty, false⟩] }, D1.L, ⟨k, j, ByteArray.empty, ByteArray.empty, false⟩, [], rfl, by rw [HNN.out], rfl, rfl, ?_, ?_, ?_, fun y' H'' e1 e2 hy hH => ?_, HS1.out.1.r, HS1.out.1.W, HS1.out.1.c0, HS1.out.2.1, ?_, ?_⟩
      · exact (no_of (HS1.out.1.h.no HBf.out.2.2)).symm
      · rcases (HCU.out.ok k).so j with e | e
        · exact e.symm
        · have := isS_of ((HCU.out.ok k).on j e)
          rw [HS1.out.1.h.no HBf.out.2.2] at this; cases this
      · have h0 := HS1.out.1.h.no HBf.out.2.2
        cases e : ((usC C k).H k).d j with
        | false => rfl
        | true =>
          have := isS_of ((HCU.out.ok k).dn j e)
          rw [h0] at this; cases this
      · subst e1; subst e2
        exact HS1.out.1.h.push HBf.out.2.2 hy hH
      · rw [List.length_append]
        have := HS1.out.2.2.1
        simp
        omega
      · have z2 := HST.out
        rw [← HBf.out.2.1] at z2
        exact Nz.next HS1.out.2.2.2.2.1 HS1.out.2.2.2.2.2 (Nz.next (HZ.out.2.sp _) (Nw.refl _ _) z2)
    · obtain ⟨i, hi⟩ : ∃ i, i = A.length := ⟨_, rfl⟩
      rw [← hi]
      have hi0 : decide ((i : Int) < 0) = false := by simp
      have HE := hid (And.intro eL (And.intro ys (And.intro yc hi)))
      clear eL ys yc hi
      go_wp2
      go_ret2
      obtain ⟨eL, ys, yc, hi⟩ := HE.out
      obtain ⟨q1, q2, q3, q4⟩ := HS1.out.1.h.at_ y (by rw [eL]; simp)
      rw [ys, yc] at q1 q2 q3
      refine ⟨(i : Int), by simp, D1, A, y, B, eL, by rw [hi], ys, yc, q1, q2, q3, fun y' H'' e1 e2 hy hH => ?_, HS1.out.1.r, HS1.out.1.W, HS1.out.1.c0, HS1.out.2.1, Nat.le_succ_of_le HS1.out.2.2.1, Nz.kp OL.dx ⟨_, HS1.out.2.2.2.1, HS1.out.2.2.2.2.1, HS1.out.2.2.2.2.2⟩ HZ.out.2⟩
      exact HS1.out.1.h.turn eL (e1.trans ys.symm) (e2.trans yc.symm) (by rw [ys, yc]; exact hy) (fun a b h => hH a b (fun e => h ⟨by rw [ys]; exact e.1, by rw [yc]; exact e.2⟩))

end Go.Proofs.YtncdidklgpmefaaDoor

namespace Go.Proofs.YtncdidklgpmefaaDoor
open Go.RowKit Plain
set_option linter.unusedVariables false

/-- a cell of the row in memory. -/
theorem DB.cell {w0 w : World} {r tr : Nat} {v : Value} {T : List Nat} {D : DS} {A B : List DC} {y : DC} (h : DB w0 w r tr v T D) (e : D.L = A ++ y :: B) : ∃ g n c, v = .slice (some ⟨g, 0, none⟩) n c ∧ w.cell? ⟨r, 2, none⟩ = some (.slice (some ⟨g, 0, none⟩) n c) ∧ A.length < n ∧ n = D.L.length ∧ n ≤ c ∧ c ≤ 9223372036854775807 ∧ w.cell? ⟨g, A.length * 5 + 2, none⟩ = some (.string y.n) ∧ w.cell? ⟨g, A.length * 5 + 3, none⟩ = some (.string y.o) ∧ w.cell? ⟨g, A.length * 5 + 4, none⟩ = some (.bool y.d) ∧ (∀ j, w.frozen? ⟨g, j, none⟩ = false) := by
  obtain ⟨_, _, c2, _⟩ := h.cells
  obtain ⟨p, c, rfl, q1, q2⟩ := h.o.shape
  obtain ⟨_, g, hp, _, hc, hf⟩ := h.o.cells
  have hA : A.length < D.L.length := by rw [e]; simp
  have hy : D.L.getD A.length dc0 = y := by rw [e, List.getD_eq_getElem?_getD]; simp
  obtain rfl := hp (by omega)
  obtain ⟨_, _, d2, d3, d4⟩ := hc A.length hA
  rw [hy] at d2 d3 d4
  exact ⟨g, _, c, rfl, c2, hA, rfl, q1, q2, d2, d3, d4, fun j => hf j (by omega)⟩
set_option maxRecDepth 100000 in
set_option maxHeartbeats 2000000 in
theorem dget {w0 w : World} {r : Nat} {Y : List Nat} {D : DS} {C : CS} (h : DX w0 w r Y D) (hd : Dl C D) (hg : Gd C.S) (hl : D.L.length ≤ 500) (hcm : D.R.c ≤ 10000) (k j : Int) : Calls Tryd.prog 16 #[.pointer (some ⟨r, 0, none⟩), .int .i64 k, .int .i64 j] w fun e w' => e = .returned (.tuple #[.string ((C.H k).n j), .bool (isS ((C.H k).n j))]) ∧ Dz w0 w w' r Y (gtC C k j) (D.R.c + 2) D.L.length := by
  have hF := dfind_any h (by omega) k j
  have HH := hid (And.intro h (And.intro hd (And.intro hg (And.intro hl hcm))))
  obtain ⟨s, hs⟩ : ∃ s, s = (C.H k).n j := ⟨_, rfl⟩
  obtain ⟨b, hb⟩ : ∃ b, b = isS s := ⟨_, rfl⟩
  rw [← hs, ← hb]
  have HSB := hid (And.intro hs hb)
  clear h hd hg hl hcm hs hb
  go_enter Tryd.func16, Tryd.ntmps16
  go_wp2_with fail
  refine hF.mono ?_; rintro e w1 ⟨z, rfl, hz, k1⟩
  have HK := hid k1
  clear hF k1
  rcases hz with ⟨rfl, hno⟩ | ⟨A, y, B, eL, rfl, ys, yc⟩
  · have hn := HH.out.2.1.h.no hno
    have HN : Hid (s = noS ∧ b = false ∧ gtC C k j = C) := ⟨by rw [HSB.out.1]; exact no_of hn, by rw [HSB.out.2, HSB.out.1]; exact hn, by unfold gtC; rw [hn, if_neg (by decide)]⟩
    clear hno hn
    go_wp2
    go_ret2
    refine ⟨by rw [HN.out.2.1, HN.out.1]; rfl, ?_⟩
    rw [HN.out.2.2]
    exact (Dz.of_kp HH.out.1 HH.out.2.1 HK.out).mono (by omega) (Nat.le_refl _)
  · obtain ⟨q1, _, _, q4⟩ := HH.out.2.1.h.at_ y (by rw [eL]; simp)
    rw [ys, yc] at q1
    have hs := HSB.out.1
    rw [← hs] at q1
    have hss : isS s = true := by rw [← q1]; exact q4
    have HG : Hid (gtC C k j = { C with S := toS C.S k } ∧ b = true) := ⟨by unfold gtC; rw [← hs, hss, if_pos rfl], by rw [HSB.out.2]; exact hss⟩
    have hx1 := HH.out.1.kept HK.out
    obtain ⟨tr0, T0, hxt, ct, hup⟩ := hx1.turn
    have hT := rtouch_any hxt HH.out.2.1.r HH.out.2.2.1 HH.out.2.1.c0 (by have := HH.out.2.2.2.2; omega) k
    have hHup : Hid (∀ w2, Rz w0 w1 w2 tr0 T0 (toS C.S k) (D.R.c + 2) → Dz w0 w1 w2 r Y { C with S := toS C.S k } (D.R.c + 2) D.L.length ∧ ∃ R', ∃ Y2, DX w0 w2 r Y2 { D with R := R' }) := fun w2 z => by
      refine ⟨HH.out.2.1.turn hup z, ?_⟩
      obtain ⟨R', _, _, _, q⟩ := z
      obtain ⟨Y2, g1, _, _⟩ := hup w2 R' q
      exact ⟨R', Y2, g1⟩
    obtain ⟨tr, v, T, hY, hB⟩ := hx1
    obtain ⟨g, n, c, hv, c2, hAn, hnl, hnc, hcb, d2, _, _, _⟩ := hB.cell eL
    rw [q1] at d2
    have hn5 : n ≤ 500 := by have := HH.out.2.2.2.1; omega
    obtain ⟨i, hi⟩ : ∃ i, i = A.length := ⟨_, rfl⟩
    rw [← hi] at d2 hAn ⊢
    have HI := hid (And.intro hi (And.intro eL q1))
    have hi0 : decide ((i : Int) < 0) = false := by simp
    have hi2 : (i : Int) < (n : Int) := by omega
    have hne := no_ne s
    rw [hss] at hne
    clear hs hxt hup hB hv hY q1 q4 ys yc hi eL hnl hss
    go_wp2_with fail
    refine hT.mono ?_; rintro e w2 ⟨rfl, z⟩
    obtain ⟨z1, R', Y2, g1⟩ := hHup.out w2 z
    have HZ : Hid (Dz w0 w w2 r Y (gtC C k j) (D.R.c + 2) D.L.length) := by
      rw [HG.out.1]
      obtain ⟨D5, f1, f2, f3, f4⟩ := z1
      exact ⟨D5, f1, f2, f3, Nz.next (HK.out.sp _) (Nw.refl _ _) f4⟩
    obtain ⟨tr3, v3, T3, hY3, hB3⟩ := g1
    obtain ⟨g3, n3, c3, hv3, c23, hAn3, hnl3, hnc3, hcb3, d23, _, _, _⟩ := hB3.cell (D := { D with R := R' }) HI.out.2.1
    rw [HI.out.2.2, ← HI.out.1] at d23
    rw [← HI.out.1] at hAn3
    have hn35 : n3 ≤ 500 := by have := HH.out.2.2.2.1; have : n3 = D.L.length := hnl3; omega
    have hi3 : (i : Int) < (n3 : Int) := by omega
    clear hT z z1 hB3 hv3 hY3 c2 d2 ct hnl3
    go_wp2
    go_ret2
    exact ⟨by rw [HG.out.2]; rfl, HZ.out⟩
set_option maxRecDepth 100000 in
set_option maxHeartbeats 4000000 in
theorem dfill {w0 w : World} {r : Nat} {Y : List Nat} {D : DS} {C : CS} (h : DX w0 w r Y D) (hd : Dl C D) (hi : Ci C) (hg : Gd C.S) (hl : D.L.length ≤ 500) (hcm : D.R.c ≤ 10000) (k j : Int) (s : ByteArray) (hpt : ptE C k j s.size = 0) : Calls Tryd.prog 15 #[.pointer (some ⟨r, 0, none⟩), .int .i64 k, .int .i64 j, .string s] w fun e w' => e = .returned (.int .i64 0) ∧ Dz w0 w w' r Y (flC C k j s) (D.R.c + 2) (D.L.length + 1) := by
  obtain ⟨hrf, hus⟩ := pt_ok.1 hpt
  obtain ⟨hk, hj, hs⟩ := rf_ok.1 hrf
  have hO := dopen_ok h hd hi hg hl hcm k j s hrf hus
  have HH : Hid (flC C k j s = { usC C k with H := upH (usC C k).H k (flH ((usC C k).H k) j s) } ∧ Ci (usC C k) ∧ s.size = 64) := ⟨by unfold flC; rw [if_pos hpt], (hi.use hg hk).1, hs⟩
  clear h hd hi hg hcm hpt hrf hus hk hj hs
  go_enter Tryd.func15, Tryd.ntmps15
  go_wp2_with fail
  refine hO.mono ?_; rintro e w1 ⟨z, rfl, D', A, y, B, eL, rfl, ys, yc, yn, yo, yd, hRc, hRl, hW, hc0, hcc, hlen, Y1, hx, s1, n1⟩
  obtain ⟨tr, v, T, hY1, hB⟩ := hx
  obtain ⟨g, n, c, rfl, c2, hAn, hnl, hnc, hcb, d2, d3, d4, df⟩ := hB.cell eL
  have hB2 := hB.setK (l := A ++ { y with o := s } :: B) (A.length * 5 + 3) (.string s) (by rw [eL]; exact cv_seto A y B s) (by rw [eL]; simp)
  obtain ⟨hB2, s2⟩ := hB2
  have hrg : r ≠ g := fun e => hB.vr (by rw [e]; rfl)
  cases hdd : y.d with
  | true =>
    have HZ : Hid (Dz w0 w (w1.setCell ⟨g, A.length * 5 + 3, none⟩ (.string s)) r Y (flC C k j s) (D.R.c + 2) (D.L.length + 1)) := by
      rw [HH.out.1]
      refine ⟨{ D' with L := A ++ { y with o := s } :: B }, ⟨hRl, hW, ?_, hc0⟩, hcc, ?_, Nz.next s1 n1 ⟨_, ⟨tr, _, T, rfl, hB2⟩, by rw [hY1]; exact s2, by rw [hY1]; exact Nw.refl _ _⟩⟩
      · refine hRc _ _ ys yc ?_ (fun a b hab => ?_)
        · show y.n = (upH _ k _ k).n j ∧ s = (upH _ k _ k).o j ∧ y.d = (upH _ k _ k).d j ∧ isS y.n = true
          rw [upH_at]
          rw [hdd] at yd
          have hdt : ((usC C k).H k).d j = true := yd.symm
          refine ⟨?_, (upS_at _ _ _).symm, by rw [hdd]; exact yd, ?_⟩
          · show y.n = (if ((usC C k).H k).d j then ((usC C k).H k).n else upS ((usC C k).H k).n j s) j
            rw [hdt, if_pos rfl]; exact yn
          · rw [yn]; exact isS_of ((HH.out.2.1.ok k).dn j hdt)
        · show (upH _ k _ a).n b = _ ∧ (upH _ k _ a).o b = _ ∧ (upH _ k _ a).d b = _
          by_cases ea : a = k
          · subst ea
            have hb : b ≠ j := fun e => hab ⟨rfl, e⟩
            rw [upH_at]
            refine ⟨?_, upS_off _ _ hb, rfl⟩
            show (if ((usC C a).H a).d j then ((usC C a).H a).n else upS ((usC C a).H a).n j s) b = _
            split
            · rfl
            · exact upS_off _ _ hb
          · rw [upH_off _ _ ea]; exact ⟨rfl, rfl, rfl⟩
      · show (A ++ { y with o := s } :: B).length ≤ _
        have : D'.L.length = (A ++ { y with o := s } :: B).length := by rw [eL]; simp
        omega
    rw [hdd] at d4
    obtain ⟨i, hi⟩ : ∃ i, i = A.length := ⟨_, rfl⟩
    rw [← hi] at d2 d3 d4 hAn HZ ⊢
    have df3 := df (i * 5 + 3)
    have hi2 : (i : Int) < (n : Int) := by omega
    have hi0 : decide ((i : Int) < 0) = false := by simp
    have hnb : n ≤ 501 := by omega
    clear hO eL ys yc yn yo yd hRc hRl hW hc0 hcc hlen s1 n1 hY1 hB hB2 s2 hi hnl hdd df
    go_wp2
    go_ret
    exact ⟨rfl, HZ.out⟩
  | false =>
    obtain ⟨hB3, s3⟩ := hB2.setK (l := A ++ { y with o := s, n := s } :: B) (A.length * 5 + 2) (.string s) (cv_setn A { y with o := s } B s) (by simp)
    have HZ : Hid (Dz w0 w ((w1.setCell ⟨g, A.length * 5 + 3, none⟩ (.string s)).setCell ⟨g, A.length * 5 + 2, none⟩ (.string s)) r Y (flC C k j s) (D.R.c + 2) (D.L.length + 1)) := by
      rw [HH.out.1]
      refine ⟨{ D' with L := A ++ { y with o := s, n := s } :: B }, ⟨hRl, hW, ?_, hc0⟩, hcc, ?_, Nz.next s1 n1 ⟨_, ⟨tr, _, T, rfl, hB3⟩, by rw [hY1]; exact s2.trans s3, by rw [hY1]; exact Nw.refl _ _⟩⟩
      · refine hRc _ _ ys yc ?_ (fun a b hab => ?_)
        · show s = (upH _ k _ k).n j ∧ s = (upH _ k _ k).o j ∧ y.d = (upH _ k _ k).d j ∧ isS s = true
          rw [upH_at]
          rw [hdd] at yd
          have hdt : ((usC C k).H k).d j = false := yd.symm
          refine ⟨?_, (upS_at _ _ _).symm, by rw [hdd]; exact yd, isS_of HH.out.2.2⟩
          show s = (if ((usC C k).H k).d j then ((usC C k).H k).n else upS ((usC C k).H k).n j s) j
          rw [hdt, if_neg (by decide)]; exact (upS_at _ _ _).symm
        · show (upH _ k _ a).n b = _ ∧ (upH _ k _ a).o b = _ ∧ (upH _ k _ a).d b = _
          by_cases ea : a = k
          · subst ea
            have hb : b ≠ j := fun e => hab ⟨rfl, e⟩
            rw [upH_at]
            refine ⟨?_, upS_off _ _ hb, rfl⟩
            show (if ((usC C a).H a).d j then ((usC C a).H a).n else upS ((usC C a).H a).n j s) b = _
            split
            · rfl
            · exact upS_off _ _ hb
          · rw [upH_off _ _ ea]; exact ⟨rfl, rfl, rfl⟩
      · show (A ++ { y with o := s, n := s } :: B).length ≤ _
        have : D'.L.length = (A ++ { y with o := s, n := s } :: B).length := by rw [eL]; simp
        omega
    rw [hdd] at d4
    obtain ⟨i, hi⟩ : ∃ i, i = A.length := ⟨_, rfl⟩
    rw [← hi] at d2 d3 d4 hAn HZ ⊢
    have df3 := df (i * 5 + 3)
    have df2 := df (i * 5 + 2)
    have hi2 : (i : Int) < (n : Int) := by omega
    have hi0 : decide ((i : Int) < 0) = false := by simp
    have hnb : n ≤ 501 := by omega
    clear hO eL ys yc yn yo yd hRc hRl hW hc0 hcc hlen s1 n1 hY1 hB hB2 hB3 s2 s3 hi hnl hdd df hl
    go_wp2
    go_ret
    exact ⟨rfl, HZ.out⟩
set_option maxRecDepth 100000 in
set_option maxHeartbeats 1000000 in
theorem dfill_rf {w0 w : World} {r : Nat} {Y : List Nat} {D : DS} {C : CS} (h : DX w0 w r Y D) (hd : Dl C D) (k j : Int) (s : ByteArray) (he : rfE C k j s.size ≠ 0) : Calls Tryd.prog 15 #[.pointer (some ⟨r, 0, none⟩), .int .i64 k, .int .i64 j, .string s] w fun e w' => e = .returned (.int .i64 (rfE C k j s.size)) ∧ Kp w w' := by
  have hO := dopen_rf h hd k j s he
  obtain ⟨E, hE⟩ : ∃ E, E = rfE C k j s.size := ⟨_, rfl⟩
  have h2 := (rf_is C k j s.size).resolve_left he
  rw [← hE] at hO h2 ⊢
  have hne : (E != 0) = true := by rcases h2 with rfl | rfl <;> rfl
  clear h hd he hE h2
  go_enter Tryd.func15, Tryd.ntmps15
  go_wp2_with fail
  refine hO.mono ?_; rintro e w1 ⟨rfl, k1⟩
  clear hO
  go_wp2
  go_ret
  exact ⟨rfl, k1⟩
set_option maxRecDepth 100000 in
set_option maxHeartbeats 1000000 in
theorem dput_rf {w0 w : World} {r : Nat} {Y : List Nat} {D : DS} {C : CS} (h : DX w0 w r Y D) (hd : Dl C D) (k j : Int) (s : ByteArray) (he : rfE C k j s.size ≠ 0) : Calls Tryd.prog 19 #[.pointer (some ⟨r, 0, none⟩), .int .i64 k, .int .i64 j, .string s] w fun e w' => e = .returned (.int .i64 (rfE C k j s.size)) ∧ Kp w w' := by
  have hO := dopen_rf h hd k j s he
  obtain ⟨E, hE⟩ : ∃ E, E = rfE C k j s.size := ⟨_, rfl⟩
  have h2 := (rf_is C k j s.size).resolve_left he
  rw [← hE] at hO h2 ⊢
  have hne : (E != 0) = true := by rcases h2 with rfl | rfl <;> rfl
  clear h hd he hE h2
  go_enter Tryd.func19, Tryd.ntmps19
  go_wp2_with fail
  refine hO.mono ?_; rintro e w1 ⟨rfl, k1⟩
  clear hO
  go_wp2
  go_ret
  exact ⟨rfl, k1⟩

end Go.Proofs.YtncdidklgpmefaaDoor

namespace Go.Proofs.YtncdidklgpmefaaDoor
open Go.RowKit Plain
set_option linter.unusedVariables false

set_option maxRecDepth 100000 in
set_option maxHeartbeats 4000000 in
theorem dopen_full {w0 w : World} {r : Nat} {Y : List Nat} {D : DS} {C : CS} (h : DX w0 w r Y D) (hd : Dl C D) (hg : Gd C.S) (k j : Int) (s : ByteArray) (hrf : rfE C k j s.size = 0) (hus : usE C k ≠ 0) : Calls Tryd.prog 38 #[.pointer (some ⟨r, 0, none⟩), .int .i64 k, .int .i64 j, .string s] w fun e w' => e = .returned (.tuple #[.int .i64 0, .int .i64 10]) ∧ Kp w w' := by
  obtain ⟨tr, T, hx, c0, _⟩ := h.turn
  obtain ⟨⟨hk1, hk2⟩, ⟨hj1, hj2⟩, hn⟩ := rf_ok.1 hrf
  obtain ⟨tr', v', T', hY, hB⟩ := h
  obtain ⟨_, c1, _, _⟩ := hB.cells
  obtain ⟨W, hW⟩ : ∃ W, W = D.W := ⟨_, rfl⟩
  rw [← hd.W, ← hW] at hj2
  rw [← hW] at c1
  have hRl : D.R.L.length ≤ 64 := by have := hd.r.len; have := hg.len; have := hg.m2; omega
  have hF := rfind_any hx (by omega) k
  have HL : ∀ (t : TypeId) (V : World), (Builtin.len_ #[9] t #[.string s]).run Tryd.prog V = .ok (.int .i64 64) V := fun t V => by
    have : (Builtin.len_ #[9] t #[.string s]).run Tryd.prog V = .ok (.int .i64 (s.size : Int)) V := rfl
    rw [this, hn]; rfl
  have hin : inT C.S k = false := by
    cases e : inT C.S k with
    | false => rfl
    | true => exact absurd (us_of_in e) hus
  have hfv : fulB C.S = true ∧ vcO C.S = none := by
    unfold usE at hus
    rw [hin, if_neg (by decide)] at hus
    cases hf : fulB C.S with
    | false => rw [hf] at hus; exact absurd rfl hus
    | true =>
      rw [hf, if_pos rfl] at hus
      cases hv : vcO C.S with
      | none => exact ⟨rfl, rfl⟩
      | some v => rw [hv] at hus; exact absurd rfl hus
  have hVic : ∀ wx, Kp w wx → Calls Tryd.prog 60 #[.pointer (some ⟨tr, 0, none⟩)] wx fun e w' => e = .returned (.tuple #[.int .i64 0, .bool false]) ∧ Kp wx w' := fun wx kx => by
    have := rvictim_any (hx.kept kx) hd.r hg
    unfold vcK at this
    rw [hfv.2] at this
    exact this
  have HX : Hid (Rl C.S D.R ∧ inT C.S k = false ∧ RX w0 w tr T D.R ∧ fulB C.S = true) := ⟨hd.r, hin, hx, hfv.1⟩
  clear hY hB hd hg hrf hus hx hW hn hin hfv
  go_enter Tryd.func38, Tryd.ntmps38
  go_wp2_with fail
  refine hF.mono ?_; rintro e w1 ⟨z0, rfl, hz, rfl⟩
  clear hF
  obtain rfl : z0 = -1 := by
    rcases fr_in HX.out.1 hz with ⟨h, _⟩ | ⟨_, h, _⟩
    · exact h
    · rw [HX.out.2.1] at h; cases h
  obtain ⟨vR, hTR, hBR⟩ := HX.out.2.2.1
  obtain ⟨m0, _, m2, _, _⟩ := hBR.cells
  obtain ⟨pR, cR, hvR, _, _⟩ := hBR.o.shape
  rw [hvR] at m2
  obtain ⟨nk, hnk⟩ : ∃ n, n = D.R.L.length := ⟨_, rfl⟩
  obtain ⟨M, hM⟩ : ∃ M, M = D.R.M := ⟨_, rfl⟩
  rw [← hnk] at m2 hRl
  rw [← hM] at m0
  have hfull : M ≤ (nk : Int) := by
    have := HX.out.2.2.2
    unfold fulB at this
    have := of_decide_eq_true this
    rw [hM, hnk, HX.out.1.M, HX.out.1.len]
    omega
  have hd1 : decide (M ≤ (nk : Int)) = true := by simp [hfull]
  clear hz hBR hTR hvR hnk hM
  go_upto_region 8 with fail
  go_quiet (fail)
  rename_i nq
  obtain ⟨wd, hwd⟩ : ∃ z, z = w1.drewN nq := ⟨_, rfl⟩
  have kd : Kp w1 wd := by rw [hwd]; exact (Kp.refl w1).drewN nq
  rw [← hwd]
  have c0 := kd.held c0
  have hVd := hVic wd kd
  have HKD := hid kd
  clear hwd kd m0 m2 hVic c1
  go_wp2_with fail
  refine hVd.mono ?_; rintro e wv ⟨rfl, kv⟩
  have HKV := hid (HKD.out.trans kv)
  clear hVd kv HKD c0
  go_wp2
  go_ret2
  exact ⟨rfl, HKV.out⟩
set_option maxRecDepth 100000 in
set_option maxHeartbeats 4000000 in
theorem dput {w0 w : World} {r : Nat} {Y : List Nat} {D : DS} {C : CS} (h : DX w0 w r Y D) (hd : Dl C D) (hi : Ci C) (hg : Gd C.S) (hl : D.L.length ≤ 500) (hcm : D.R.c ≤ 10000) (k j : Int) (s : ByteArray) (hpt : ptE C k j s.size = 0) : Calls Tryd.prog 19 #[.pointer (some ⟨r, 0, none⟩), .int .i64 k, .int .i64 j, .string s] w fun e w' => e = .returned (.int .i64 0) ∧ Dz w0 w w' r Y (ptC C k j s) (D.R.c + 2) (D.L.length + 1) := by
  obtain ⟨hrf, hus⟩ := pt_ok.1 hpt
  obtain ⟨hk, hj, hs⟩ := rf_ok.1 hrf
  have hO := dopen_ok h hd hi hg hl hcm k j s hrf hus
  have HH : Hid (ptC C k j s = { usC C k with H := upH (usC C k).H k (ptH ((usC C k).H k) j s), S := pnS (usC C k).S k true } ∧ Gd (usC C k).S ∧ s.size = 64) := ⟨by unfold ptC; rw [if_pos hpt], (hi.use hg hk).2, hs⟩
  clear h hd hi hg hcm hpt hrf hus hk hj hs
  go_enter Tryd.func19, Tryd.ntmps19
  go_wp2_with fail
  refine hO.mono ?_; rintro e w1 ⟨z, rfl, D', A, y, B, eL, rfl, ys, yc, yn, yo, yd, hRc, hRl, hW, hc0, hcc, hlen, Y1, hx, s1, n1⟩
  obtain ⟨tr, v, T, hY1, hB⟩ := hx
  obtain ⟨g, n, c, rfl, c2, hAn, hnl, hnc, hcb, d2, d3, d4, df⟩ := hB.cell eL
  obtain ⟨hB2, s2⟩ := hB.setK (l := A ++ { y with n := s } :: B) (A.length * 5 + 2) (.string s) (by rw [eL]; exact cv_setn A y B s) (by rw [eL]; simp)
  obtain ⟨hB3, s3⟩ := hB2.setK (l := A ++ { y with n := s, d := true } :: B) (A.length * 5 + 4) (.bool true) (cv_setd A { y with n := s } B true) (by simp)
  have hrg : r ≠ g := fun e => hB.vr (by rw [e]; rfl)
  have hDX3 : DX w0 ((w1.setCell ⟨g, A.length * 5 + 2, none⟩ (.string s)).setCell ⟨g, A.length * 5 + 4, none⟩ (.bool true)) r Y1 { D' with L := A ++ { y with n := s, d := true } :: B } := ⟨tr, _, T, hY1, hB3⟩
  obtain ⟨tr3, T3, hx3, c3, hup3⟩ := hDX3.turn
  have hP := rpin_any hx3 hRl HH.out.2.1 hc0 k true
  have HP : Hid (∀ w', Rz w0 ((w1.setCell ⟨g, A.length * 5 + 2, none⟩ (.string s)).setCell ⟨g, A.length * 5 + 4, none⟩ (.bool true)) w' tr3 T3 (pnS (usC C k).S k true) D'.R.c → Dz w0 w w' r Y (ptC C k j s) (D.R.c + 2) (D.L.length + 1)) := fun w' zP => by
    obtain ⟨R', q1, q2, q3, q4⟩ := zP
    rw [HH.out.1]
    refine ⟨{ D' with L := A ++ { y with n := s, d := true } :: B, R := R' }, ⟨q1, hW, ?_, q2⟩, by show R'.c ≤ _; omega, ?_, Nz.next s1 n1 (Nz.next (by rw [hY1]; exact s2.trans s3) (Nw.refl _ _) (hup3 w' R' q4))⟩
    · refine hRc _ _ ys yc ?_ (fun a b hab => ?_)
      · show s = (upH _ k _ k).n j ∧ y.o = (upH _ k _ k).o j ∧ true = (upH _ k _ k).d j ∧ isS s = true
        rw [upH_at]
        exact ⟨(upS_at _ _ _).symm, yo, (if_pos rfl : upB _ j true j = true).symm, isS_of HH.out.2.2⟩
      · show (upH _ k _ a).n b = _ ∧ (upH _ k _ a).o b = _ ∧ (upH _ k _ a).d b = _
        by_cases ea : a = k
        · subst ea
          have hb : b ≠ j := fun e => hab ⟨rfl, e⟩
          rw [upH_at]
          exact ⟨upS_off _ _ hb, rfl, if_neg hb⟩
        · rw [upH_off _ _ ea]; exact ⟨rfl, rfl, rfl⟩
    · show (A ++ { y with n := s, d := true } :: B).length ≤ _
      have : D'.L.length = (A ++ { y with n := s, d := true } :: B).length := by rw [eL]; simp
      omega
  obtain ⟨i, hii⟩ : ∃ i, i = A.length := ⟨_, rfl⟩
  rw [← hii] at d2 d3 d4 hAn HP hP c3 ⊢
  have df4 := df (i * 5 + 4)
  have df2 := df (i * 5 + 2)
  have hi2 : (i : Int) < (n : Int) := by omega
  have hi0 : decide ((i : Int) < 0) = false := by simp
  have hnb : n ≤ 501 := by omega
  clear hO eL ys yc yn yo yd hRc hRl hW hc0 hcc hlen s1 n1 hY1 hB hB2 hB3 s2 s3 hii hnl df hl hDX3 hx3 hup3
  go_wp2_with fail
  refine hP.mono ?_; rintro e w5 ⟨rfl, zP⟩
  have HZ := hid (HP.out w5 zP)
  clear hP zP HP
  go_wp2
  go_ret
  exact ⟨rfl, HZ.out⟩
theorem Dz.zero {w0 w w' : World} {r : Nat} {Y : List Nat} {D : DS} {C C' : CS} (h : DX w0 w r Y D) (hd : Dl C D) (k : Kp w w') (e : C' = C) : Dz w0 w w' r Y C' (D.R.c + 2) (D.L.length + 1) := by
  rw [e]
  exact (Dz.of_kp h hd k).mono (by omega) (Nat.le_succ _)
set_option maxRecDepth 100000 in
set_option maxHeartbeats 1000000 in
theorem dfill_full {w0 w : World} {r : Nat} {Y : List Nat} {D : DS} {C : CS} (h : DX w0 w r Y D) (hd : Dl C D) (hg : Gd C.S) (k j : Int) (s : ByteArray) (hrf : rfE C k j s.size = 0) (hus : usE C k ≠ 0) : Calls Tryd.prog 15 #[.pointer (some ⟨r, 0, none⟩), .int .i64 k, .int .i64 j, .string s] w fun e w' => e = .returned (.int .i64 10) ∧ Kp w w' := by
  have hO := dopen_full h hd hg k j s hrf hus
  clear h hd hg hrf hus
  go_enter Tryd.func15, Tryd.ntmps15
  go_wp2_with fail
  refine hO.mono ?_; rintro e w1 ⟨rfl, k1⟩
  clear hO
  go_wp2
  go_ret
  exact ⟨rfl, k1⟩
set_option maxRecDepth 100000 in
set_option maxHeartbeats 1000000 in
theorem dput_full {w0 w : World} {r : Nat} {Y : List Nat} {D : DS} {C : CS} (h : DX w0 w r Y D) (hd : Dl C D) (hg : Gd C.S) (k j : Int) (s : ByteArray) (hrf : rfE C k j s.size = 0) (hus : usE C k ≠ 0) : Calls Tryd.prog 19 #[.pointer (some ⟨r, 0, none⟩), .int .i64 k, .int .i64 j, .string s] w fun e w' => e = .returned (.int .i64 10) ∧ Kp w w' := by
  have hO := dopen_full h hd hg k j s hrf hus
  clear h hd hg hrf hus
  go_enter Tryd.func19, Tryd.ntmps19
  go_wp2_with fail
  refine hO.mono ?_; rintro e w1 ⟨rfl, k1⟩
  clear hO
  go_wp2
  go_ret
  exact ⟨rfl, k1⟩
/-- whatever they answer. -/
theorem dfillA {w0 w : World} {r : Nat} {Y : List Nat} {D : DS} {C : CS} (h : DX w0 w r Y D) (hd : Dl C D) (hi : Ci C) (hg : Gd C.S) (hl : D.L.length ≤ 500) (hcm : D.R.c ≤ 10000) (k j : Int) (s : ByteArray) : Calls Tryd.prog 15 #[.pointer (some ⟨r, 0, none⟩), .int .i64 k, .int .i64 j, .string s] w fun e w' => e = .returned (.int .i64 (ptE C k j s.size)) ∧ Dz w0 w w' r Y (flC C k j s) (D.R.c + 2) (D.L.length + 1) := by
  by_cases h0 : rfE C k j s.size = 0
  · by_cases hu : usE C k = 0
    · rw [pt_ok.2 ⟨h0, hu⟩]
      exact dfill h hd hi hg hl hcm k j s (pt_ok.2 ⟨h0, hu⟩)
    · have h10 := (us_is C k).resolve_left hu
      rw [pt_us h0, h10]
      exact (dfill_full h hd hg k j s h0 hu).mono fun e w' ⟨e1, k1⟩ => ⟨e1, Dz.zero h hd k1 (fl_no (by rw [pt_us h0]; exact hu))⟩
  · rw [pt_rf h0]
    exact (dfill_rf h hd k j s h0).mono fun e w' ⟨e1, k1⟩ => ⟨e1, Dz.zero h hd k1 (fl_no (by rw [pt_rf h0]; exact h0))⟩
theorem dputA {w0 w : World} {r : Nat} {Y : List Nat} {D : DS} {C : CS} (h : DX w0 w r Y D) (hd : Dl C D) (hi : Ci C) (hg : Gd C.S) (hl : D.L.length ≤ 500) (hcm : D.R.c ≤ 10000) (k j : Int) (s : ByteArray) : Calls Tryd.prog 19 #[.pointer (some ⟨r, 0, none⟩), .int .i64 k, .int .i64 j, .string s] w fun e w' => e = .returned (.int .i64 (ptE C k j s.size)) ∧ Dz w0 w w' r Y (ptC C k j s) (D.R.c + 2) (D.L.length + 1) := by
  by_cases h0 : rfE C k j s.size = 0
  · by_cases hu : usE C k = 0
    · rw [pt_ok.2 ⟨h0, hu⟩]
      exact dput h hd hi hg hl hcm k j s (pt_ok.2 ⟨h0, hu⟩)
    · have h10 := (us_is C k).resolve_left hu
      rw [pt_us h0, h10]
      exact (dput_full h hd hg k j s h0 hu).mono fun e w' ⟨e1, k1⟩ => ⟨e1, Dz.zero h hd k1 (pt_no (by rw [pt_us h0]; exact hu))⟩
  · rw [pt_rf h0]
    exact (dput_rf h hd k j s h0).mono fun e w' ⟨e1, k1⟩ => ⟨e1, Dz.zero h hd k1 (pt_no (by rw [pt_rf h0]; exact h0))⟩
/-! ### Drop, Done -/
set_option maxRecDepth 100000 in
set_option maxHeartbeats 2000000 in
theorem ddrop {w0 w : World} {r : Nat} {Y : List Nat} {D : DS} {C : CS} (h : DX w0 w r Y D) (hd : Dl C D) (hi : Ci C) (hg : Gd C.S) (hl : D.L.length ≤ 500) (k : Int) : Calls Tryd.prog 18 #[.pointer (some ⟨r, 0, none⟩), .int .i64 k] w fun e w' => e = .returned (.bool (dpB C k)) ∧ Dz w0 w w' r Y (dpC C k) D.R.c D.L.length := by
  obtain ⟨tr, T, hx, c0, _⟩ := h.turn
  have hRl : D.R.L.length ≤ 64 := by have := hd.r.len; have := hg.len; have := hg.m2; omega
  have hF := rfind_any hx (by omega) k
  have hC := dcol_1 h (hd.cr hi) (by omega) k
  have hdy : decide (clN D.L k 1 ≠ 0) = dyH (C.H k) := by rw [hd.clN hi]; exact wn_dirty _ _ (hi.ok k) hi.w2
  obtain ⟨N, hN⟩ : ∃ N, N = clN D.L k 1 := ⟨_, rfl⟩
  rw [← hN] at hC hdy
  have HH := hid (And.intro h (And.intro hd (And.intro hg (And.intro hl (And.intro hdy (And.intro hi hx))))))
  obtain ⟨b, hb⟩ : ∃ b, b = dpB C k := ⟨_, rfl⟩
  rw [← hb]
  have HB := hid hb
  clear h hd hi hg hl hx hdy hN hb hRl
  go_enter Tryd.func18, Tryd.ntmps18
  go_wp2_with fail
  refine hF.mono ?_; rintro e w1 ⟨z, rfl, hz, rfl⟩
  clear hF
  rcases fr_in HH.out.2.1.r hz with ⟨rfl, hin⟩ | ⟨hz0, hin, _⟩
  · have HE : Hid (b = false ∧ dpC C k = C) := by
      have : dpB C k = false := by unfold dpB; rw [hin]; rfl
      exact ⟨HB.out.trans this, by unfold dpC; rw [this, if_neg (by decide)]⟩
    clear hz hin
    go_wp2_with fail
    refine hC.mono ?_; rintro e w2 ⟨rfl, k2⟩
    have HK := hid k2
    clear hC k2 c0
    go_wp2
    go_ret
    refine ⟨by rw [HE.out.1]; rfl, ?_⟩
    rw [HE.out.2]
    exact Dz.of_kp HH.out.1 HH.out.2.1 HK.out
  · have hz1 : decide (z < 0) = false := by simp; omega
    by_cases h0 : N = 0
    · have hd0 : ((N : Int) != 0) = false := by rw [h0]; rfl
      have HE : Hid (b = true ∧ dpC C k = { C with S := drS C.S k, H := upH C.H k Go.Proofs.YtncdidklgpmefaaDoor.hd0 } ∧ inT C.S k = true) := by
        have h1 : dyH (C.H k) = false := by rw [← HH.out.2.2.2.2.1, h0]; rfl
        have : dpB C k = true := by unfold dpB; rw [hin, h1]; rfl
        exact ⟨HB.out.trans this, by unfold dpC; rw [this, if_pos rfl], hin⟩
      clear hz hin h0
      go_wp2_with fail
      refine hC.mono ?_; rintro e w2 ⟨rfl, k2⟩
      have hO := dout (HH.out.1.kept k2) HH.out.2.1 HH.out.2.2.1 (by have := HH.out.2.2.2.1; omega) k HE.out.2.2
      have HK := hid k2
      clear hC k2 c0
      go_wp2_with fail
      refine hO.mono ?_; rintro e w3 ⟨rfl, zO⟩
      have HZ : Hid (Dz w0 w1 w3 r Y (dpC C k) D.R.c D.L.length) := by
        rw [HE.out.2.1]
        obtain ⟨D5, g1, g2, g3, g4⟩ := zO
        exact ⟨D5, g1, g2, g3, Nz.next (HK.out.sp _) (Nw.refl _ _) g4⟩
      clear hO zO
      go_wp2
      go_ret
      exact ⟨by rw [HE.out.1]; rfl, HZ.out⟩
    · have hd0 : ((N : Int) != 0) = true := by simp; omega
      have HE : Hid (b = false ∧ dpC C k = C) := by
        have h1 : dyH (C.H k) = true := by rw [← HH.out.2.2.2.2.1]; exact decide_eq_true h0
        have : dpB C k = false := by unfold dpB; rw [hin, h1]; rfl
        exact ⟨HB.out.trans this, by unfold dpC; rw [this, if_neg (by decide)]⟩
      clear hz hin h0
      go_wp2_with fail
      refine hC.mono ?_; rintro e w2 ⟨rfl, k2⟩
      have HK := hid k2
      clear hC k2 c0
      go_wp2
      go_ret
      refine ⟨by rw [HE.out.1]; rfl, ?_⟩
      rw [HE.out.2]
      exact Dz.of_kp HH.out.1 HH.out.2.1 HK.out

end Go.Proofs.YtncdidklgpmefaaDoor

namespace Go.Proofs.YtncdidklgpmefaaDoor
open Go.RowKit Plain
set_option linter.unusedVariables false

theorem dnL_zero (k : Int) (L : List DC) : dnL k 0 L = L := rfl
theorem dnL_all (k : Int) (L : List DC) : dnL k L.length L = L.map (dnX k) := by unfold dnL; rw [List.take_length, List.drop_length, List.append_nil]
theorem dnL_at (k : Int) {L : List DC} {i : Nat} (h : i < L.length) : dnL k i L = (L.take i).map (dnX k) ++ L.getD i dc0 :: L.drop (i + 1) := by
  unfold dnL
  rw [List.drop_eq_getElem_cons h, List.getD_eq_getElem?_getD, List.getElem?_eq_getElem h]; rfl
theorem dnL_next (k : Int) {L : List DC} {i : Nat} (h : i < L.length) : dnL k (i + 1) L = (L.take i).map (dnX k) ++ dnX k (L.getD i dc0) :: L.drop (i + 1) := by
  unfold dnL
  rw [dc_take h, List.map_append, List.append_assoc]; rfl
theorem dnL_len (k : Int) (i : Nat) (L : List DC) : (dnL k i L).length = L.length := by
  unfold dnL
  rw [List.length_append, List.length_map, List.length_take, List.length_drop]
  omega
theorem DB.cell0 {w0 w : World} {r tr : Nat} {v : Value} {T : List Nat} {D : DS} {A B : List DC} {y : DC} (h : DB w0 w r tr v T D) (e : D.L = A ++ y :: B) {g n c : Nat} (hv : v = .slice (some ⟨g, 0, none⟩) n c) : w.cell? ⟨g, A.length * 5, none⟩ = some (.int .i64 y.s) := by
  subst hv
  obtain ⟨_, g', hp, _, hc, _⟩ := h.o.cells
  have hA : A.length < n := by
    obtain ⟨hn, _⟩ := h.o.cells
    rw [hn, e]; simp
  have hy : D.L.getD A.length dc0 = y := by rw [e, List.getD_eq_getElem?_getD]; simp
  have e2 := hp (by omega)
  simp at e2
  obtain ⟨d0, _⟩ := hc A.length hA
  rw [hy, ← e2] at d0
  exact d0
set_option maxRecDepth 100000 in
set_option maxHeartbeats 4000000 in
theorem ddone {w0 w : World} {r : Nat} {Y : List Nat} {D : DS} {C : CS} (h : DX w0 w r Y D) (hd : Dl C D) (hi : Ci C) (hg : Gd C.S) (hl : D.L.length ≤ 500) (k : Int) : Calls Tryd.prog 17 #[.pointer (some ⟨r, 0, none⟩), .int .i64 k] w fun e w' => e = .returned (.bool (inT C.S k)) ∧ Dz w0 w w' r Y (dnC C k) D.R.c D.L.length := by
  obtain ⟨tr, T, hx, c0, _⟩ := h.turn
  have hRl : D.R.L.length ≤ 64 := by have := hd.r.len; have := hg.len; have := hg.m2; omega
  have hF := rfind_any hx (by omega) k
  have HH := hid (And.intro h (And.intro hd (And.intro hg hl)))
  obtain ⟨b, hb⟩ : ∃ b, b = inT C.S k := ⟨_, rfl⟩
  rw [← hb]
  have HB := hid hb
  obtain ⟨tr2, v, T2, hY, hB⟩ := h
  have htr : tr2 = tr := by
    have := hB.cells.1
    rw [c0] at this
    simpa using this.symm
  subst htr
  have HD := hid (And.intro hB hY)
  clear hd hi hg hx hb hRl hB hY
  go_enter Tryd.func17, Tryd.ntmps17
  go_wp2_with fail
  refine hF.mono ?_; rintro e w1 ⟨z, rfl, hz, rfl⟩
  clear hF
  rcases fr_in HH.out.2.1.r hz with ⟨rfl, hin⟩ | ⟨hz0, hin, _⟩
  · have HE : Hid (b = false ∧ dnC C k = C) := ⟨HB.out.trans hin, by unfold dnC; rw [hin, if_neg (by decide)]⟩
    clear hz hin
    go_wp2
    go_ret
    refine ⟨by rw [HE.out.1]; rfl, ?_⟩
    rw [HE.out.2]
    exact Dz.of_kp HH.out.1 HH.out.2.1 (Kp.refl w1)
  · have hz1 : decide (z < 0) = false := by simp; omega
    have HE : Hid (b = true ∧ dnC C k = { C with H := upH C.H k (dnH (C.H k)), S := pnS C.S k false }) := ⟨HB.out.trans hin, by unfold dnC; rw [hin, if_pos rfl]⟩
    obtain ⟨n, hn⟩ : ∃ n, n = D.L.length := ⟨_, rfl⟩
    have HN := hid hn
    rw [← hn] at hl
    have H0 : Hid (DB w0 w1 r tr2 v T2 { D with L := dnL k 0 D.L } ∧ Sp (dbl r v T2) w1 w1) := ⟨HD.out.1, Sp.refl _ _⟩
    clear hz hin hn c0
    go_wp2
    go_loopw [6] (fun si wr => ∃ i : Nat, si = .int .i64 i ∧ i ≤ n ∧ Hid (DB w0 wr r tr2 v T2 { D with L := dnL k i D.L } ∧ Sp (dbl r v T2) w1 wr)) (fun q _ => n - (intOf q).toNat)
    case atStart => exact ⟨0, rfl, by omega, H0⟩
    case round =>
      clear H0
      obtain ⟨i, rfl, hi, HI⟩ := hrel
      rename World => wr
      by_cases hin : i < n
      · have hil : i < D.L.length := by have := HN.out; omega
        have eL : (dnL k i D.L) = (D.L.take i).map (dnX k) ++ D.L.getD i dc0 :: D.L.drop (i + 1) := dnL_at k hil
        obtain ⟨A, hA⟩ : ∃ A, A = (D.L.take i).map (dnX k) := ⟨_, rfl⟩
        have hAl : A.length = i := by rw [hA, List.length_map, List.length_take]; omega
        obtain ⟨y, hy⟩ : ∃ y, y = D.L.getD i dc0 := ⟨_, rfl⟩
        have eN := dnL_next k hil
        rw [← hA, ← hy] at eL eN
        have hysz : isS y.n = true := (HH.out.2.1.h.at_ y (by rw [hy]; exact dc_mem hil)).2.2.2
        have hB := HI.out.1
        obtain ⟨g, n2, c, hv, c2, hAn, hnl, hnc, hcb, d2, d3, d4, df⟩ := hB.cell eL
        have d0 := hB.cell0 eL hv
        rw [hAl] at d0 d2 d3 d4 hAn
        have hn2 : n2 = n := by
          have : n2 = (dnL k i D.L).length := hnl
          rw [this, dnL_len, HN.out]
        subst hn2
        have hi2 : (i : Int) < (n2 : Int) := by omega
        have hi0 : decide ((i : Int) < 0) = false := by simp
        by_cases hyk : y.s = k
        · have hd1 : (y.s != k) = false := by simp [hyk]
          subst hv
          have hrg : r ≠ g := fun e => hB.vr (by rw [e]; rfl)
          obtain ⟨hB2, s2⟩ := hB.setK (l := A ++ { y with d := false } :: D.L.drop (i + 1)) (i * 5 + 4) (.bool false) (by show (cv (dnL k i D.L)).set _ _ = _; rw [eL, ← hAl]; exact cv_setd A y _ false) (by show _ = (dnL k i D.L).length; rw [eL]; simp)
          obtain ⟨hB3, s3⟩ := hB2.setK (l := A ++ { y with d := false, o := y.n } :: D.L.drop (i + 1)) (i * 5 + 3) (.string y.n) (by rw [← hAl]; exact cv_seto A { y with d := false } _ y.n) (by simp)
          have kd : Kp ((wr.setCell ⟨g, i * 5 + 4, none⟩ (.bool false)).setCell ⟨g, i * 5 + 3, none⟩ (.string y.n)) ((wr.setCell ⟨g, i * 5 + 4, none⟩ (.bool false)).setCell ⟨g, i * 5 + 3, none⟩ (.string y.n)).drew := (Kp.refl _).drew
          have HI2 : Hid (DB w0 ((wr.setCell ⟨g, i * 5 + 4, none⟩ (.bool false)).setCell ⟨g, i * 5 + 3, none⟩ (.string y.n)).drew r tr2 (.slice (some ⟨g, 0, none⟩) n2 c) T2 { D with L := dnL k (i + 1) D.L } ∧ Sp (dbl r (.slice (some ⟨g, 0, none⟩) n2 c) T2) w1 ((wr.setCell ⟨g, i * 5 + 4, none⟩ (.bool false)).setCell ⟨g, i * 5 + 3, none⟩ (.string y.n)).drew) := by
            refine ⟨?_, (HI.out.2.trans (s2.trans s3)).trans (kd.sp _)⟩
            rw [eN, show dnX k y = { y with d := false, o := y.n } from if_pos hyk]
            exact hB3.sp (kd.sp []) (fun _ _ h => by cases h)
          have df4 := df (i * 5 + 4)
          have df3 := df (i * 5 + 3)
          have hne := no_ne y.n
          rw [hysz] at hne
          obtain ⟨yn, hyn⟩ : ∃ s, s = y.n := ⟨_, rfl⟩
          rw [← hyn] at d2 hne HI2
          clear hB hB2 hB3 s2 s3 kd df hA hAl hy eL eN hysz HI hil hyn hnl hyk
          go_upto_region 10 with fail
          go_region
          go_wp2
          go_roundw
          case rel => exact ⟨i + 1, by go_num, by omega, HI2⟩
          case measure => simp [intOf]; omega
        · have hd1 : (y.s != k) = true := by simp [hyk]
          have HI2 : Hid (DB w0 wr r tr2 v T2 { D with L := dnL k (i + 1) D.L } ∧ Sp (dbl r v T2) w1 wr) := by
            refine ⟨?_, HI.out.2⟩
            rw [eN, show dnX k y = y from if_neg hyk, ← eL]
            exact HI.out.1
          subst hv
          clear hB df hA hAl hy eL eN hysz HI hil hnl hyk d2 d3 d4
          go_wp2
          go_roundw
          case rel => exact ⟨i + 1, by go_num, by omega, HI2⟩
          case measure => simp [intOf]; omega
      · obtain rfl : i = n := by omega
        obtain ⟨_, _, c2, _⟩ := HI.out.1.cells
        obtain ⟨p, c, hvs, q1, q2⟩ := HI.out.1.o.shape
        have hvl : (dnL k i D.L).length = i := by rw [dnL_len, HN.out]
        have hvs : v = .slice p i c := by
          have : v = .slice p (dnL k i D.L).length c := hvs
          rw [this, hvl]
        rw [hvs] at c2
        have c0 := HI.out.1.cells.1
        have hx2 := HI.out.1.t
        have hDX : DX w0 wr r (dbl r v T2) { D with L := dnL k i D.L } := ⟨tr2, v, T2, rfl, HI.out.1⟩
        have hP := rpin_any hx2 HH.out.2.1.r HH.out.2.2.1 HH.out.2.1.c0 k false
        have HP : Hid (∀ w', Rz w0 wr w' tr2 T2 (pnS C.S k false) D.R.c → Dz w0 w1 w' r Y (dnC C k) D.R.c D.L.length) := fun w' zP => by
          obtain ⟨R', g1, g2, g3, g4⟩ := zP
          obtain ⟨T3, f1, f2, f3⟩ := HI.out.1.turn g4
          rw [HE.out.2]
          refine ⟨{ D with L := D.L.map (dnX k), R := R' }, ⟨g1, HH.out.2.1.W, HH.out.2.1.h.done k, g2⟩, g3, by show (D.L.map (dnX k)).length ≤ _; rw [List.length_map]; exact Nat.le_refl _, ?_⟩
          have e1 : dnL k i D.L = D.L.map (dnX k) := by rw [HN.out]; exact dnL_all k D.L
          rw [HD.out.2]
          refine Nz.next HI.out.2 (Nw.refl _ _) ⟨_, ⟨tr2, v, T3, rfl, by rw [← e1]; exact f1⟩, f2.mono (fun t ht => dbl_t ht), fun t ht => ?_⟩
          rcases dbl_in ht with rfl | ht | ht
          · exact .inl dbl_r
          · exact .inl (dbl_v ht)
          · rcases f3 t ht with e | e
            · exact .inl (dbl_t e)
            · exact .inr e
        clear hx2 hDX hvs hvl q1 q2 HI
        go_wp2_with fail
        refine hP.mono ?_; rintro e w5 ⟨rfl, zP⟩
        have HZ := hid (HP.out w5 zP)
        clear hP zP HP
        go_wp2
        go_ret
        exact ⟨by rw [HE.out.1]; rfl, HZ.out⟩

end Go.Proofs.YtncdidklgpmefaaDoor

namespace Go.Proofs.YtncdidklgpmefaaDoor
open Go.RowKit Plain
set_option linter.unusedVariables false

set_option maxRecDepth 100000 in
theorem nfind (k : Int) (w : World) : Calls Tryd.prog 25 #[.pointer none, .int .i64 k] w fun e w' => e = .returned (.tuple #[.pointer none, .bool false]) ∧ Kp w w' := by
  go_enter Tryd.func25, Tryd.ntmps25
  go_wp2
  go_ret2
  exact ⟨rfl, Kp.refl w⟩
set_option maxRecDepth 100000 in
theorem nrefuses (k j : Int) (s : ByteArray) (w : World) : Calls Tryd.prog 28 #[.pointer none, .int .i64 k, .int .i64 j, .string s] w fun e w' => e = .returned (.int .i64 1) ∧ Kp w w' := by
  go_enter Tryd.func28, Tryd.ntmps28
  go_wp2
  go_ret
  exact ⟨rfl, Kp.refl w⟩
set_option maxRecDepth 100000 in
theorem nget (k j : Int) (w : World) : Calls Tryd.prog 8 #[.pointer none, .int .i64 k, .int .i64 j] w fun e w' => e = .returned (.tuple #[.string (ByteArray.mk #[]), .bool false]) ∧ Kp w w' := by
  go_enter Tryd.func8, Tryd.ntmps8
  go_wp2_with fail
  refine (nfind k w).mono ?_; rintro e w1 ⟨rfl, k1⟩
  go_wp2
  go_ret2
  exact ⟨rfl, k1⟩
set_option maxRecDepth 100000 in
theorem nfill (k j : Int) (s : ByteArray) (w : World) : Calls Tryd.prog 10 #[.pointer none, .int .i64 k, .int .i64 j, .string s] w fun e w' => e = .returned (.int .i64 1) ∧ Kp w w' := by
  go_enter Tryd.func10, Tryd.ntmps10
  go_wp2_with fail
  refine (nrefuses k j s w).mono ?_; rintro e w1 ⟨rfl, k1⟩
  go_wp2
  go_ret
  exact ⟨rfl, k1⟩
set_option maxRecDepth 100000 in
theorem nput (k j : Int) (s : ByteArray) (w : World) : Calls Tryd.prog 9 #[.pointer none, .int .i64 k, .int .i64 j, .string s] w fun e w' => e = .returned (.int .i64 1) ∧ Kp w w' := by
  go_enter Tryd.func9, Tryd.ntmps9
  go_wp2_with fail
  refine (nrefuses k j s w).mono ?_; rintro e w1 ⟨rfl, k1⟩
  go_wp2
  go_ret
  exact ⟨rfl, k1⟩
set_option maxRecDepth 100000 in
theorem ndone (k : Int) (w : World) : Calls Tryd.prog 11 #[.pointer none, .int .i64 k] w fun e w' => e = .returned (.bool false) ∧ Kp w w' := by
  go_enter Tryd.func11, Tryd.ntmps11
  go_wp2_with fail
  refine (nfind k w).mono ?_; rintro e w1 ⟨rfl, k1⟩
  go_wp2
  go_ret
  exact ⟨rfl, k1⟩
set_option maxRecDepth 100000 in
theorem ndropC (k : Int) (w : World) : Calls Tryd.prog 12 #[.pointer none, .int .i64 k] w fun e w' => e = .returned (.bool false) ∧ Kp w w' := by
  go_enter Tryd.func12, Tryd.ntmps12
  go_wp2_with fail
  refine (nfind k w).mono ?_; rintro e w1 ⟨rfl, k1⟩
  go_wp2
  go_ret
  exact ⟨rfl, k1⟩
set_option maxRecDepth 100000 in
theorem ndirty (w : World) : Calls Tryd.prog 13 #[.pointer none] w fun e w' => e = .returned (.slice none 0 0) ∧ Kp w w' := by
  go_enter Tryd.func13, Tryd.ntmps13
  go_wp2
  go_ret
  exact ⟨rfl, Kp.refl w⟩

end Go.Proofs.YtncdidklgpmefaaDoor

namespace Go.Proofs.YtncdidklgpmefaaDoor
open Go.RowKit Plain
set_option linter.unusedVariables false
set_option linter.unusedSimpArgs false

/-- a set of numbers below 64 is its first word. -/
theorem sv_small (f : Nat → Bool) (h : ∀ i, 64 ≤ i → f i = false) : SV f = .agg #[.int .u64 ((wn 64 f : Nat) : Int), .int .u64 0, .int .u64 0, .int .u64 0] := by
  have h0 : wd f 0 = wn 64 f := wn_congr 64 _ _ (fun j _ => by simp)
  have h1 : ∀ k, 0 < k → wd f k = 0 := fun k hk => wn_zero 64 _ (fun j _ => h _ (by omega))
  unfold SV
  rw [h0, h1 1 (by omega), h1 2 (by omega), h1 3 (by omega)]; rfl
theorem wrap_n (N : Nat) (h : N < 18446744073709551616) : IntKind.u64.wrap (N : Int) = (N : Int) := by rw [IntKind.wrap_u64]; omega
theorem build_word (a : Int) (w : World) : (Instr.build 66 #[(0, .int .u64 a)]).run Tryd.prog w = .ok (.agg #[.int .u64 a, .int .u64 0, .int .u64 0, .int .u64 0]) w := run_build w 66 _ _ (by kernel_rfl)
theorem eq_word (a : Int) (w : World) : (Op.equalIn 10000 67 (.agg #[.int .u64 a, .int .u64 0, .int .u64 0, .int .u64 0]) (.agg #[.int .u64 a, .int .u64 0, .int .u64 0, .int .u64 0])).run Tryd.prog w = .ok true w := by
  rw [eq4]; simp
theorem dyS_stop {C : CS} (hi : Ci C) : fl 256 (dyS C) = fl 64 (dyS C) := fl_stop _ 64 256 (by omega) (fun j h1 h2 => by
  unfold dyS
  have : inT C.S (j : Int) = false := by
    cases e : inT C.S (j : Int) with
    | false => rfl
    | true => have := hi.key _ (in_iff.1 e); omega
  rw [hi.outk this, dy_no])
theorem kd_stop {C : CS} (hi : Ci C) (k kind : Int) (i : Nat) (h : 64 ≤ i) : kdF (C.H k) kind i = false := by
  have h1 := (hi.ok k).out (i : Int) (by have := hi.w2; omega)
  unfold kdF
  split
  · unfold stF; rw [h1.2.1, isS_no]
  · split
    · unfold sdF; exact h1.2.2
    · unfold stF; rw [h1.1, isS_no]
theorem OwnI.cellsAt {w : World} {base : Nat} {v : Value} {l : List Int} (h : OwnI w base v l) : ∃ a g cap, v = .slice a l.length cap ∧ (0 < l.length → a = some ⟨g, 0, none⟩) ∧ ∀ j, j < l.length → w.cell? ⟨g, j, none⟩ = some (.int .i64 (l.getD j 0)) := by
  obtain ⟨a, g, cap, e, _, _, h1, _, h2⟩ := h.ints
  exact ⟨a, g, cap, e, h1, h2⟩
theorem intsin_cells {w : World} {v : Value} {l : List Int} (h : IntsIn w v l) : ∃ a b off cap, v = .slice a l.length cap ∧ (0 < l.length → a = some ⟨b, off, none⟩) ∧ ∀ j, j < l.length → w.cell? ⟨b, off + j, none⟩ = some (.int .i64 (l.getD j 0)) := by
  cases h with
  | empty a cap h => exact ⟨a, 0, 0, cap, rfl, fun h => absurd h (by simp), fun j h => absurd h (by simp)⟩
  | some b off cap l h0 h1 h2 hc => exact ⟨_, b, off, cap, rfl, fun _ => rfl, hc⟩
set_option maxRecDepth 100000 in
set_option maxHeartbeats 8000000 in
theorem same_any {w0 w : World} {c q r : Nat} {X Y : List Nat} {C : CS} {D : DS} (h1 : Ca w0 w c q C X) (h2 : DX w0 w r Y D) (hd : Dl C D) (hl : D.L.length ≤ 500) (hT : Tab w) {k : Int} (hk : iOk k) (j : Int) : Calls Tryd.prog 20 #[.pointer (some ⟨c, 0, none⟩), .pointer (some ⟨r, 0, none⟩), .int .i64 k, .int .i64 j] w fun e w' => e = .returned (.bool true) ∧ Kp w w' := by
  have hL := clen h1 hT
  obtain ⟨l, hll⟩ : ∃ l, l = (fl 64 (dyS C)).map Int.ofNat := ⟨_, rfl⟩
  obtain ⟨m, hm⟩ : ∃ m, m = l.length := ⟨_, rfl⟩
  obtain ⟨n, hn⟩ : ∃ n, n = D.R.L.length := ⟨_, rfl⟩
  have hlen := hd.r.len
  have hml : (fl 256 (dyS C)).length = m := by rw [dyS_stop h1.i, hm, hll, List.length_map]
  rw [hml, ← hlen, ← hn] at hL
  have HH := hid (And.intro h1 (And.intro h2 (And.intro hd (And.intro hl (And.intro hT (And.intro hll (And.intro hm hn)))))))
  have HKI := hid hk
  clear h1 h2 hd hl hT hll hm hn hlen hml hk
  go_enter Tryd.func20, Tryd.ntmps20
  go_wp2_with fail
  refine hL.mono ?_; rintro e w1 ⟨rfl, k1⟩
  have hD := cdirty (HH.out.1.kp k1).1 (HH.out.2.2.2.2.1.kp k1)
  rw [dyS_stop HH.out.1.i, ← HH.out.2.2.2.2.2.1] at hD
  have K1 := hid k1
  clear hL k1
  go_wp2_with fail
  refine hD.mono ?_; rintro e w2 ⟨v1, rfl, i1, k2⟩
  have K2 := hid (K1.out.trans k2)
  have hD2 := ddirty (HH.out.2.1.kept K2.out) HH.out.2.2.1 HH.out.1.i (by have := HH.out.2.2.2.1; omega)
  rw [← HH.out.2.2.2.2.2.1] at hD2
  have HI := hid i1
  clear hD K1 k2 i1
  go_wp2_with fail
  refine hD2.mono ?_; rintro e w3 ⟨v2, rfl, i2, k3⟩
  have K3 := hid (K2.out.trans k3)
  obtain ⟨a1, b1, o1, p1, rfl, q1, d1⟩ := intsin_cells (HI.out.kept k3)
  obtain ⟨a2, b2, p2, rfl, q2, d2⟩ := i2.cellsAt
  rw [← HH.out.2.2.2.2.2.2.1] at q1 q2 d1 d2 ⊢
  obtain ⟨tr, T, hx, c0, _⟩ := (HH.out.2.1.kept K3.out).turn
  obtain ⟨vR, hTR, hBR⟩ := hx
  obtain ⟨_, _, m2, _, _⟩ := hBR.cells
  obtain ⟨pR, cR, hvR, _, _⟩ := hBR.o.shape
  rw [hvR, ← HH.out.2.2.2.2.2.2.2] at m2
  have HD := hid (And.intro d1 (And.intro d2 (And.intro q1 q2)))
  clear hD2 k3 i2 hTR hBR hvR HI K2 d1 d2 q1 q2
  have hm64 : m ≤ 64 := by
    have h1 := HH.out.2.2.2.2.2.2.1
    rw [HH.out.2.2.2.2.2.1, List.length_map] at h1
    have := fl_le 64 (dyS C)
    omega
  go_wp2_with fail
  clear c0 m2
  go_loopw [13, 55] (fun _ i wx => ∃ t : Nat, t ≤ m ∧ i = .int .i64 t ∧ Hid (Kp w3 wx)) (fun _ i _ => m - (intOf i).toNat)
  case atStart => exact ⟨0, by omega, by go_num, Kp.refl _⟩
  case round =>
    obtain ⟨t, ht, rfl, HK⟩ := hrel
    rename World => wr
    by_cases htm : t < m
    · obtain ⟨d1, d2, q1, q2⟩ := HD.out
      obtain rfl := q1 (by omega)
      obtain rfl := q2 (by omega)
      have e1 := HK.out.held (d1 t htm)
      have e2 := HK.out.held (d2 t htm)
      obtain ⟨x, hx⟩ : ∃ x, x = l.getD t 0 := ⟨_, rfl⟩
      rw [← hx] at e1 e2
      have hti : (t : Int) < (m : Int) := by omega
      have hxx : (x != x) = false := by simp
      clear d1 d2 q1 q2 hx
      go_upto_region 8 with fail
      go_region
      have HK2 : Hid (Kp w3 wr.drew) := HK.out.drew
      clear e1 e2 HK
      go_wp2
      go_roundw
      case rel => exact ⟨t + 1, by omega, by go_num, HK2⟩
      case measure => simp [intOf]; omega
    · obtain rfl : t = m := by omega
      clear HD
      have hS : ∀ kind, clN D.L k kind = wn 64 (kdF (C.H k) kind) := fun kind => HH.out.2.2.1.clN HH.out.1.i k kind
      have K4 := hid (K3.out.trans HK.out)
      obtain ⟨N0, hN0⟩ : ∃ N, N = clN D.L k 0 := ⟨_, rfl⟩
      obtain ⟨N1, hN1⟩ : ∃ N, N = clN D.L k 1 := ⟨_, rfl⟩
      obtain ⟨N2, hN2⟩ : ∃ N, N = clN D.L k 2 := ⟨_, rfl⟩
      have hW0 := wrap_n N0 (by rw [hN0]; exact clN_lt _ _ _)
      have hW1 := wrap_n N1 (by rw [hN1]; exact clN_lt _ _ _)
      have hW2 := wrap_n N2 (by rw [hN2]; exact clN_lt _ _ _)
      have hC0 : ∀ V, Kp w V → Calls Tryd.prog 43 #[.pointer (some ⟨r, 0, none⟩), .int .i64 k, .int .i64 0] V fun e w' => e = .returned (.int .i64 (N0 : Nat)) ∧ Kp V w' := fun V kv => by rw [hN0]; exact dcol_0 (HH.out.2.1.kept kv) (HH.out.2.2.1.cr HH.out.1.i) (by have := HH.out.2.2.2.1; omega) k
      have hC1 : ∀ V, Kp w V → Calls Tryd.prog 43 #[.pointer (some ⟨r, 0, none⟩), .int .i64 k, .int .i64 1] V fun e w' => e = .returned (.int .i64 (N1 : Nat)) ∧ Kp V w' := fun V kv => by rw [hN1]; exact dcol_1 (HH.out.2.1.kept kv) (HH.out.2.2.1.cr HH.out.1.i) (by have := HH.out.2.2.2.1; omega) k
      have hC2 : ∀ V, Kp w V → Calls Tryd.prog 43 #[.pointer (some ⟨r, 0, none⟩), .int .i64 k, .int .i64 2] V fun e w' => e = .returned (.int .i64 (N2 : Nat)) ∧ Kp V w' := fun V kv => by rw [hN2]; exact dcol_2 (HH.out.2.1.kept kv) (HH.out.2.2.1.cr HH.out.1.i) (by have := HH.out.2.2.2.1; omega) k
      have hV := chave (HH.out.1.kp K4.out).1 HKI.out
      have s0 : SV (stF (C.H k).n) = .agg #[.int .u64 (N0 : Int), .int .u64 0, .int .u64 0, .int .u64 0] := by
        rw [hN0, hS 0, show kdF (C.H k) 0 = stF (C.H k).n from rfl]
        exact sv_small _ (fun i h => kd_stop HH.out.1.i k 0 i h)
      have s1 : SV (sdF (C.H k).d) = .agg #[.int .u64 (N1 : Int), .int .u64 0, .int .u64 0, .int .u64 0] := by
        rw [hN1, hS 1, show kdF (C.H k) 1 = sdF (C.H k).d from rfl]
        exact sv_small _ (fun i h => kd_stop HH.out.1.i k 1 i h)
      have s2 : SV (stF (C.H k).o) = .agg #[.int .u64 (N2 : Int), .int .u64 0, .int .u64 0, .int .u64 0] := by
        rw [hN2, hS 2, show kdF (C.H k) 2 = stF (C.H k).o from rfl]
        exact sv_small _ (fun i h => kd_stop HH.out.1.i k 2 i h)
      rw [s0, s1] at hV
      have HS2 := hid s2
      have HC := hid (And.intro hC0 (And.intro hC1 hC2))
      clear hS hN0 hN1 hN2 s0 s1 s2 HK K3 hC0 hC1 hC2
      go_wp2_with fail
      refine hV.mono ?_; rintro e w5 ⟨rfl, k5⟩
      have K5 := hid (K4.out.trans k5)
      clear hV k5 K4
      obtain ⟨V, hVe⟩ : ∃ V, V = (w5.alloc (.cells #[.int .u64 (N0 : Int), .int .u64 0, .int .u64 0, .int .u64 0] 67)).alloc (.cells #[.int .u64 (N1 : Int), .int .u64 0, .int .u64 0, .int .u64 0] 67) := ⟨_, rfl⟩
      obtain ⟨B, hB⟩ : ∃ B, B = w5.heap.size := ⟨_, rfl⟩
      have kV : Kp w5 V := by rw [hVe]; exact ((Kp.refl w5).alloc _).alloc _
      have b1 : V.heap[B + 1]? = some (.cells #[.int .u64 (N1 : Int), .int .u64 0, .int .u64 0, .int .u64 0] 67 (0, 0)) := by
        have := new_obj (w5.alloc (.cells #[.int .u64 (N0 : Int), .int .u64 0, .int .u64 0, .int .u64 0] 67)) #[.int .u64 (N1 : Int), .int .u64 0, .int .u64 0, .int .u64 0] 67
        rw [hVe, hB]
        rw [show (w5.alloc (.cells #[.int .u64 (N0 : Int), .int .u64 0, .int .u64 0, .int .u64 0] 67)).heap.size = w5.heap.size + 1 from by simp] at this
        exact this
      have b0 : V.heap[B]? = some (.cells #[.int .u64 (N0 : Int), .int .u64 0, .int .u64 0, .int .u64 0] 67 (0, 0)) := by
        have := new_obj w5 #[.int .u64 (N0 : Int), .int .u64 0, .int .u64 0, .int .u64 0] 67
        rw [hVe, hB]
        exact ((((Kp.refl _).alloc _).block _ (heap_lt this)).trans this)
      have HVV := hid (And.intro hVe hB)
      have HB := hid (And.intro b0 (And.intro b1 (K5.out.trans kV)))
      have hKn := cknown (HH.out.1.kp HB.out.2.2).1 HKI.out
      rw [HS2.out] at hKn
      clear hVe hB kV b0 b1 K5 HS2
      go_upto_region 12 with fail
      rw [← HVV.out.1, ← HVV.out.2]
      clear HVV
      go_wp2_with fail
      refine hKn.mono ?_; rintro e w6 ⟨rfl, k6⟩
      obtain ⟨V2, hVe⟩ : ∃ V, V = w6.alloc (.cells #[.int .u64 (N2 : Int), .int .u64 0, .int .u64 0, .int .u64 0] 67) := ⟨_, rfl⟩
      obtain ⟨B2, hB⟩ : ∃ B, B = w6.heap.size := ⟨_, rfl⟩
      have kV : Kp V V2 := by rw [hVe]; exact k6.alloc _
      have b2 : V2.heap[B2]? = some (.cells #[.int .u64 (N2 : Int), .int .u64 0, .int .u64 0, .int .u64 0] 67 (0, 0)) := by rw [hVe, hB]; exact new_obj _ _ _
      have HVV := hid (And.intro hVe hB)
      have b0 := (kV.block _ (heap_lt HB.out.1)).trans HB.out.1
      have b1 := (kV.block _ (heap_lt HB.out.2.1)).trans HB.out.2.1
      have KV := hid (HB.out.2.2.trans kV)
      have HB2 := hid (And.intro b0 (And.intro b1 b2))
      clear hVe hB kV b0 b1 b2 k6 hKn HB
      go_upto_region 13 with fail
      rw [← HVV.out.1, ← HVV.out.2]
      clear HVV
      have x0 := kpw_cell (cell_of HB2.out.1 0)
      have x1 := kpw_cell (cell_of HB2.out.1 1)
      have x2 := kpw_cell (cell_of HB2.out.1 2)
      have x3 := kpw_cell (cell_of HB2.out.1 3)
      have y0 := kpw_cell (cell_of HB2.out.2.1 0)
      have y1 := kpw_cell (cell_of HB2.out.2.1 1)
      have y2 := kpw_cell (cell_of HB2.out.2.1 2)
      have y3 := kpw_cell (cell_of HB2.out.2.1 3)
      have z0 := kpw_cell (cell_of HB2.out.2.2 0)
      have z1 := kpw_cell (cell_of HB2.out.2.2 1)
      have z2 := kpw_cell (cell_of HB2.out.2.2 2)
      have z3 := kpw_cell (cell_of HB2.out.2.2 3)
      have hE0 := eq_word N0
      have hE1 := eq_word N1
      have hE2 := eq_word N2
      have hb0 := build_word N0
      have hb1 := build_word N1
      have hb2 := build_word N2
      have c0 := fun p => HC.out.1 _ (KV.out.trans (kpw_kp V2 p))
      have c1 := fun p => HC.out.2.1 _ (KV.out.trans (kpw_kp V2 p))
      have c2 := fun p => HC.out.2.2 _ (KV.out.trans (kpw_kp V2 p))
      have HC3 := hid (And.intro c0 (And.intro c1 c2))
      clear c0 c1 c2 HC
      go_wp2_with fail
      refine wp_region_kp (by kernel_rfl) (by kernel_rfl) ?_
      repeat (first
        | go_big_quiet_skip
        | (go_big_quiet_want; go_big_quiet_op; go_big_quiet_on)
        | (go_big_quiet_want; go_big_quiet_op; apply Exists.intro; refine ⟨fun p => ?_, ?_⟩; (focus (first
            | (go_at_call 43; first | with_reducible exact kp_call (HC3.out.1 _) | with_reducible exact kp_call (HC3.out.2.1 _) | with_reducible exact kp_call (HC3.out.2.2 _)))); go_big_quiet_on))
      refine wpQuiet_nil ?_
      rintro V3 ⟨p3, hp3⟩
      have K6 : Hid (Kp w V3) := by show Kp w V3; rw [hp3]; exact KV.out.trans (kpw_kp V2 p3)
      have hO := cold (HH.out.1.kp K6.out).1 HKI.out j
      have hF := fun V (kv : Kp w V) => dfind_any (HH.out.2.1.kept kv) (by have := HH.out.2.2.2.1; omega) k j
      obtain ⟨s, hs⟩ : ∃ s, s = (C.H k).o j := ⟨_, rfl⟩
      obtain ⟨b, hb⟩ : ∃ b, b = isS s := ⟨_, rfl⟩
      rw [← hs, ← hb] at hO
      have HSB := hid (And.intro hs hb)
      clear hp3 x0 x1 x2 x3 y0 y1 y2 y3 z0 z1 z2 z3 hE0 hE1 hE2 hb0 hb1 hb2 HC3 hs hb hW0 hW1 hW2 HB2 KV
      go_wp2_with fail
      refine hO.mono ?_; rintro e V4 ⟨rfl, k4⟩
      have hF := hF V4 (K6.out.trans k4)
      have K7 := hid (K6.out.trans k4)
      clear hO k4 K6
      go_wp2_with fail
      refine hF.mono ?_; rintro e V5 ⟨z, rfl, hz, k5⟩
      have K8 := hid (K7.out.trans k5)
      clear hF k5 K7
      rcases hz with ⟨rfl, hno⟩ | ⟨A, y, Bl, eL, rfl, ys, yc⟩
      · have hn0 := HH.out.2.2.1.h.no hno
        have hs0 : s = noS := by
          rw [HSB.out.1]
          rcases (HH.out.1.i.ok k).so j with e | e
          · exact e
          · have := isS_of ((HH.out.1.i.ok k).on _ e)
            rw [hn0] at this; cases this
        have hb0 : b = false := by rw [HSB.out.2, hs0]; exact isS_no
        subst hs0
        subst hb0
        have hne := no_ne noS
        rw [isS_no] at hne
        clear hno hn0 HSB
        go_wp2
        go_ret
        exact ⟨rfl, K8.out⟩
      · obtain ⟨tr2, v, T2, hY2, hB⟩ := HH.out.2.1.kept K8.out
        obtain ⟨g, n2, c2, hv, c2e, hAn, hnl, hnc, hcb, d2, d3, d4, df⟩ := hB.cell eL
        have hyo := (HH.out.2.2.1.h.at_ y (by rw [eL]; simp)).2.1
        rw [ys, yc, ← HSB.out.1] at hyo
        rw [hyo] at d3
        have hAi : (A.length : Int) < (n2 : Int) := by omega
        have hA0 : decide ((A.length : Int) ≥ 0) = true := by simp
        obtain ⟨Al, hAl⟩ : ∃ Al, Al = A.length := ⟨_, rfl⟩
        rw [← hAl] at d3 hAn hAi hA0 ⊢
        have hne := no_ne s
        rw [← HSB.out.2] at hne

        clear hB hv d2 d4 df hyo ys yc eL hAl HSB hnl hY2
        cases b with
        | true =>
          go_wp2
          go_ret
          exact ⟨rfl, K8.out⟩
        | false =>
          go_wp2
          go_ret
          exact ⟨rfl, K8.out⟩

end Go.Proofs.YtncdidklgpmefaaDoor

namespace Go.Proofs.YtncdidklgpmefaaDoor
open Go.RowKit Plain
set_option linter.unusedVariables false

def Pz (w X : World) (c r q : Nat) (C : CS) : Prop := ∃ D Y, Ca w X c q C Y ∧ DX w X r Y D ∧ Dl C D ∧ D.R.c ≤ 2 * (q : Int) ∧ D.L.length ≤ q
/-- the cache at C' (behind p changes), the document's beside C0 (behind q); a block. -/
def Pm (w X : World) (c r : Nat) (C0 C' : CS) (p q H : Nat) (cs : Array Value) (y : TypeId) : Prop := ∃ D Y, Ca w X c p C' (H :: Y) ∧ DX w X r Y D ∧ Dl C0 D ∧ D.R.c ≤ 2 * (q : Int) ∧ D.L.length ≤ q ∧ H ∉ Y ∧ X.heap[H]? = some (.cells cs y (0, 0)) ∧ Ci C0 ∧ Gd C0.S
section
variable {w X X' : World} {c r p q H : Nat} {C C0 C' : CS} {cs : Array Value} {y : TypeId}
theorem Pz.k (h : Pz w X c r q C) : Kp w X := by obtain ⟨_, _, h, _⟩ := h; exact h.k
theorem Pz.i (h : Pz w X c r q C) : Ci C := by obtain ⟨_, _, h, _⟩ := h; exact h.i
theorem Pz.g (h : Pz w X c r q C) : Gd C.S := by obtain ⟨_, _, h, _⟩ := h; exact h.g
theorem Pz.new {V : World} {D : DS} {Y : List Nat} (h1 : Ca w V c 0 C []) (k : Kp V X) (h2 : DX w X r Y D) (h3 : Dl C D) (hc : D.R.c = 0) (hl : D.L = []) (hT : ∀ t ∈ Y, V.heap.size ≤ t) : Pz w X c r 0 C :=
  ⟨D, Y, h1.mv (k.sp []) (fun _ h => by cases h) (fun x hx => ⟨.inr (hT x hx), OL.dx.low h2 x hx⟩), h2, h3, by rw [hc]; decide, by rw [hl]; decide⟩
theorem Pm.at (h : Pm w X c r C0 C' p q H cs y) : X.heap[H]? = some (.cells cs y (0, 0)) := by obtain ⟨_, _, _, _, _, _, _, _, h, _⟩ := h; exact h
theorem Pm.k (h : Pm w X c r C0 C' p q H cs y) : Kp w X := by obtain ⟨_, _, h, _⟩ := h; exact h.k
theorem Pm.pz (h : Pm w X c r C C q q H cs y) : Pz w X c r q C := by
  obtain ⟨D, Y, h1, h2, h3, h4, h5, _⟩ := h
  exact ⟨D, Y, h1.less (fun x hx => List.mem_cons_of_mem _ hx), h2, h3, h4, h5⟩
theorem Pz.kp (h : Pz w X c r q C) (k : Kp X X') : Pz w X' c r q C := by
  obtain ⟨D, Y, h1, h2, h3, h4, h5⟩ := h
  exact ⟨D, Y, (h1.kp k).1, h2.kept k, h3, h4, h5⟩
theorem Pm.kp (h : Pm w X c r C0 C' p q H cs y) (k : Kp X X') : Pm w X' c r C0 C' p q H cs y := by
  obtain ⟨D, Y, h1, h2, h3, h4, h5, h6, h7, h8⟩ := h
  exact ⟨D, Y, (h1.kp k).1, h2.kept k, h3, h4, h5, h6, (k.block H (heap_lt h7)).trans h7, h8⟩
theorem Pm.up (h : Pm w X c r C0 C' p q H cs y) {p' : Nat} (hp : p ≤ p') : Pm w X c r C0 C' p' q H cs y := by
  obtain ⟨D, Y, h1, h2⟩ := h
  exact ⟨D, Y, h1.up hp, h2⟩
theorem Pz.box (h : Pz w X c r q C) (cs : Array Value) (y : TypeId) : Pm w (X.alloc (.cells cs y)) c r C C q q X.heap.size cs y := by
  have k : Kp X (X.alloc (.cells cs y)) := (Kp.refl X).alloc _
  obtain ⟨D, Y, h1, h2, h3, h4, h5⟩ := h
  refine ⟨D, Y, h1.more k (Nat.le_refl _) (by simp), h2.kept k, h3, h4, h5, fun h => ?_, new_obj _ _ _, h1.i, h1.g⟩
  have := OL.dx.low h2 _ h; omega
/-- a call on the cache; what else stays. -/
theorem Pm.one {D : DS} {Y : List Nat} {C2 : CS} {p' : Nat} (h2 : DX w X r Y D) (h3 : Dl C0 D) (h4 : D.R.c ≤ 2 * (q : Int)) (h5 : D.L.length ≤ q) (h6 : H ∉ Y) (h7 : X.heap[H]? = some (.cells cs y (0, 0))) (h8 : Ci C0 ∧ Gd C0.S) (u : Ca w X' c p' C2 (H :: Y)) (l : Lk (H :: Y) X X') : Pm w X' c r C0 C2 p' q H cs y :=
  ⟨D, Y, u, h2.lk (fun t ht => l t (List.mem_cons_of_mem _ ht)) u.k.size, h3, h4, h5, h6, (l H List.mem_cons_self).trans h7, h8⟩
/-- a call on the document's. -/
theorem Pm.two {D : DS} {Y : List Nat} {C2 : CS} {e : Int} {m : Nat} (h1 : Ca w X c p C2 (H :: Y)) (h2 : DX w X r Y D) (h6 : H ∉ Y) (h7 : X.heap[H]? = some (.cells cs y (0, 0))) (z : Dz w X X' r Y C2 e m) (he : e ≤ 2 * (q : Int)) (hm : m ≤ q) : Pm w X' c r C2 C2 p q H cs y := by
  obtain ⟨D', d1, d2, d3, Y', a1, a2, a3⟩ := z
  refine ⟨D', Y', h1.mv a2 (fun t ht => ⟨List.mem_cons_of_mem _ ht, OL.dx.new h2 t ht⟩) (fun x hx => ?_), a1, d1, by omega, by omega, fun h => ?_, (a2.block H (heap_lt h7) h6).trans h7, h1.i, h1.g⟩
  · rcases List.mem_cons.1 hx with rfl | hx
    · exact ⟨.inl List.mem_cons_self, Nat.lt_of_lt_of_le (heap_lt h7) a2.size⟩
    · refine ⟨?_, OL.dx.low a1 x hx⟩
      rcases a3 x hx with h | h
      · exact .inl (List.mem_cons_of_mem _ h)
      · exact .inr h
  · rcases a3 H h with h | h
    · exact h6 h
    · have := heap_lt h7; omega
theorem Pm.put (h : Pm w X c r C C q q H cs y) (hq : q < 200) (k j : Int) (s : ByteArray) : Calls Tryd.prog 9 #[.pointer (some ⟨c, 0, none⟩), .int .i64 k, .int .i64 j, .string s] X fun e X' => e = .returned (.int .i64 (ptE C k j s.size)) ∧ Pm w X' c r C (ptC C k j s) (q + 1) q H cs y := by
  obtain ⟨D, Y, h1, h2, h3, h4, h5, h6, h7, h8⟩ := h
  refine (cput h1 (by omega) k j s).mono ?_
  rintro e X' ⟨rfl, u, l⟩
  exact ⟨rfl, Pm.one h2 h3 h4 h5 h6 h7 h8 u l⟩
theorem Pm.fill (h : Pm w X c r C C q q H cs y) (hq : q < 200) (k j : Int) (s : ByteArray) : Calls Tryd.prog 10 #[.pointer (some ⟨c, 0, none⟩), .int .i64 k, .int .i64 j, .string s] X fun e X' => e = .returned (.int .i64 (ptE C k j s.size)) ∧ Pm w X' c r C (flC C k j s) (q + 1) q H cs y := by
  obtain ⟨D, Y, h1, h2, h3, h4, h5, h6, h7, h8⟩ := h
  refine (cfill h1 (by omega) k j s).mono ?_
  rintro e X' ⟨rfl, u, l⟩
  exact ⟨rfl, Pm.one h2 h3 h4 h5 h6 h7 h8 u l⟩
theorem Pm.get (h : Pm w X c r C C q q H cs y) {k : Int} (hk : iOk k) (j : Int) : Calls Tryd.prog 8 #[.pointer (some ⟨c, 0, none⟩), .int .i64 k, .int .i64 j] X fun e X' => e = .returned (.tuple #[.string ((C.H k).n j), .bool (isS ((C.H k).n j))]) ∧ Pm w X' c r C (gtC C k j) (q + 1) q H cs y := by
  obtain ⟨D, Y, h1, h2, h3, h4, h5, h6, h7, h8⟩ := h
  refine (cget h1 hk j).mono ?_
  rintro e X' ⟨rfl, u, l⟩
  exact ⟨rfl, (Pm.one h2 h3 h4 h5 h6 h7 h8 u l).up (Nat.le_succ _)⟩
theorem Pm.done (h : Pm w X c r C C q q H cs y) (hq : q < 200) {k : Int} (hk : iOk k) : Calls Tryd.prog 11 #[.pointer (some ⟨c, 0, none⟩), .int .i64 k] X fun e X' => e = .returned (.bool (inT C.S k)) ∧ Pm w X' c r C (dnC C k) (q + 1) q H cs y := by
  obtain ⟨D, Y, h1, h2, h3, h4, h5, h6, h7, h8⟩ := h
  refine (cdone h1 (by omega) hk).mono ?_
  rintro e X' ⟨rfl, u, l⟩
  exact ⟨rfl, Pm.one h2 h3 h4 h5 h6 h7 h8 u l⟩
theorem Pm.drop (h : Pm w X c r C C q q H cs y) {k : Int} (hk : iOk k) : Calls Tryd.prog 12 #[.pointer (some ⟨c, 0, none⟩), .int .i64 k] X fun e X' => e = .returned (.bool (dpB C k)) ∧ Pm w X' c r C (dpC C k) (q + 1) q H cs y := by
  obtain ⟨D, Y, h1, h2, h3, h4, h5, h6, h7, h8⟩ := h
  refine (cdrop h1 hk).mono ?_
  rintro e X' ⟨rfl, u, l⟩
  exact ⟨rfl, (Pm.one h2 h3 h4 h5 h6 h7 h8 u l).up (Nat.le_succ _)⟩
theorem Pm.rput (k j : Int) (s : ByteArray) (h : Pm w X c r C (ptC C k j s) (q + 1) q H cs y) (hq : q < 200) : Calls Tryd.prog 19 #[.pointer (some ⟨r, 0, none⟩), .int .i64 k, .int .i64 j, .string s] X fun e X' => e = .returned (.int .i64 (ptE C k j s.size)) ∧ Pm w X' c r (ptC C k j s) (ptC C k j s) (q + 1) (q + 1) H cs y := by
  obtain ⟨D, Y, h1, h2, h3, h4, h5, h6, h7, h8, h9⟩ := h
  refine (dputA h2 h3 h8 h9 (by omega) (by omega) k j s).mono ?_
  rintro e X' ⟨rfl, z⟩
  exact ⟨rfl, Pm.two h1 h2 h6 h7 z (by omega) (by omega)⟩
theorem Pm.rfill (k j : Int) (s : ByteArray) (h : Pm w X c r C (flC C k j s) (q + 1) q H cs y) (hq : q < 200) : Calls Tryd.prog 15 #[.pointer (some ⟨r, 0, none⟩), .int .i64 k, .int .i64 j, .string s] X fun e X' => e = .returned (.int .i64 (ptE C k j s.size)) ∧ Pm w X' c r (flC C k j s) (flC C k j s) (q + 1) (q + 1) H cs y := by
  obtain ⟨D, Y, h1, h2, h3, h4, h5, h6, h7, h8, h9⟩ := h
  refine (dfillA h2 h3 h8 h9 (by omega) (by omega) k j s).mono ?_
  rintro e X' ⟨rfl, z⟩
  exact ⟨rfl, Pm.two h1 h2 h6 h7 z (by omega) (by omega)⟩
theorem Pm.rget (k j : Int) (h : Pm w X c r C (gtC C k j) (q + 1) q H cs y) (hq : q < 200) : Calls Tryd.prog 16 #[.pointer (some ⟨r, 0, none⟩), .int .i64 k, .int .i64 j] X fun e X' => e = .returned (.tuple #[.string ((C.H k).n j), .bool (isS ((C.H k).n j))]) ∧ Pm w X' c r (gtC C k j) (gtC C k j) (q + 1) (q + 1) H cs y := by
  obtain ⟨D, Y, h1, h2, h3, h4, h5, h6, h7, h8, h9⟩ := h
  refine (dget h2 h3 h9 (by omega) (by omega) k j).mono ?_
  rintro e X' ⟨rfl, z⟩
  exact ⟨rfl, Pm.two h1 h2 h6 h7 z (by omega) (by omega)⟩
theorem Pm.rdone (k : Int) (h : Pm w X c r C (dnC C k) (q + 1) q H cs y) (hq : q < 200) : Calls Tryd.prog 17 #[.pointer (some ⟨r, 0, none⟩), .int .i64 k] X fun e X' => e = .returned (.bool (inT C.S k)) ∧ Pm w X' c r (dnC C k) (dnC C k) (q + 1) (q + 1) H cs y := by
  obtain ⟨D, Y, h1, h2, h3, h4, h5, h6, h7, h8, h9⟩ := h
  refine (ddone h2 h3 h8 h9 (by omega) k).mono ?_
  rintro e X' ⟨rfl, z⟩
  exact ⟨rfl, Pm.two h1 h2 h6 h7 z (by omega) (by omega)⟩
theorem Pm.rdrop (k : Int) (h : Pm w X c r C (dpC C k) (q + 1) q H cs y) (hq : q < 200) : Calls Tryd.prog 18 #[.pointer (some ⟨r, 0, none⟩), .int .i64 k] X fun e X' => e = .returned (.bool (dpB C k)) ∧ Pm w X' c r (dpC C k) (dpC C k) (q + 1) (q + 1) H cs y := by
  obtain ⟨D, Y, h1, h2, h3, h4, h5, h6, h7, h8, h9⟩ := h
  refine (ddrop h2 h3 h8 h9 (by omega) k).mono ?_
  rintro e X' ⟨rfl, z⟩
  exact ⟨rfl, Pm.two h1 h2 h6 h7 z (by omega) (by omega)⟩
theorem Pm.same (h : Pm w X c r C C q q H cs y) (hq : q < 200) (hT : Tab w) {k : Int} (hk : iOk k) (j : Int) : Calls Tryd.prog 20 #[.pointer (some ⟨c, 0, none⟩), .pointer (some ⟨r, 0, none⟩), .int .i64 k, .int .i64 j] X fun e X' => e = .returned (.bool true) ∧ Pm w X' c r C C q q H cs y := by
  have h0 := h
  obtain ⟨D, Y, h1, h2, h3, h4, h5, _⟩ := h0
  exact (same_any h1 h2 h3 (by omega) (hT.kp h1.k) hk j).mono (fun e X' q => ⟨q.1, h.kp q.2⟩)
end

end Go.Proofs.YtncdidklgpmefaaDoor
