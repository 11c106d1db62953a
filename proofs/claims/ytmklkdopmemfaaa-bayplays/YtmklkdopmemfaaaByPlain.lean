/-
  A bay, in plain terms: the steps that are left, the steps made, its members; what each call makes of it. No condition.
-/
import Derived.Test.YtmklkdopmemfaaaMmTri
namespace Go.Proofs.Ytmklkdopmemfaaa
open Go.RowKit Plain
set_option linter.unusedVariables false

/-- a bay: the steps that are left (none: the power doesn't fail), those made, how many were asked for at most, the members. -/
structure BS where
  pw : Option Nat
  md : Nat
  g : Nat
  ms : List MS
def noM : MS := nw 1
def bm (B : BS) (i : Int) : MS := B.ms.getD i.toNat noM
def fdE (B : BS) (i : Int) : Int := if 0 ≤ i ∧ i < B.ms.length then 0 else 11
def stE (B : BS) (i : Int) : Int := if fdE B i = 0 then (if B.pw = some 0 then 21 else 0) else 11
def stS (B : BS) (i : Int) : BS := if stE B i = 0 then ⟨B.pw.map (· - 1), B.md + 1, B.g + 1, B.ms⟩ else ⟨B.pw, B.md, B.g + 1, B.ms⟩
def put (B : BS) (i : Int) (S : MS) : BS := ⟨B.pw, B.md, B.g, B.ms.set i.toNat S⟩
def opE (B : BS) (i : Int) (f : MS → Int) : Int := if stE B i = 0 then f (bm B i) else stE B i
def opS (B : BS) (i : Int) (f : MS → MS) : BS := if stE B i = 0 then put (stS B i) i (f (bm B i)) else stS B i
def rdT (B : BS) (i k : Int) : ByteArray := if stE B i = 0 then rdS (bm B i) k else ByteArray.empty
def rdE (B : BS) (i k : Int) : Int := if stE B i = 0 then rcE (bm B i) k else stE B i
def rdB (B : BS) (i k : Int) : BS := if stE B i = 0 then put B i (rd (bm B i) k) else B
def ctB (B : BS) (n : Int) : BS := ⟨some n.toNat, B.md, B.g, B.ms⟩
def ofB (B : BS) : Bool := decide (B.pw = some 0)
/-- members behind a crash, the first k of them. -/
def crM (ks : Nat → List Nat) : Nat → Nat → List MS → List MS
  | _, _, [] => []
  | i, k, S :: L => (if i < k then cr S (bit (ks i)) else S) :: crM ks (i + 1) k L
def crB (B : BS) (ks : Nat → List Nat) : BS := ⟨none, B.md, B.g, crM ks 0 B.ms.length B.ms⟩
/-- the members that aren't dead, from the i-th on. -/
def lvL : Nat → List MS → List Nat
  | _, [] => []
  | i, S :: L => if S.dead then lvL (i + 1) L else i :: lvL (i + 1) L
def nwB (n s : Int) : BS := ⟨none, 0, 0, List.replicate (min (max n 1) 32).toNat (nw (nwN s))⟩

theorem lvL_app : ∀ (L : List MS) (i : Nat) (S : MS), lvL i (L ++ [S]) = if S.dead then lvL i L else lvL i L ++ [i + L.length]
  | [], i, S => by simp only [List.nil_append, lvL, List.length_nil, Nat.add_zero]
  | R :: L, i, S => by
    simp only [List.cons_append, lvL, lvL_app L (i + 1) S, List.length_cons, show i + 1 + L.length = i + (L.length + 1) by omega]
    split <;> split <;> rfl
theorem take_more {α : Type} (L : List α) (d : α) (k : Nat) (h : k < L.length) : L.take (k + 1) = L.take k ++ [L.getD k d] := by
  rw [List.take_add_one, List.getElem?_eq_getElem h, List.getD_eq_getElem?_getD, List.getElem?_eq_getElem h]
  rfl
theorem lvL_take (L : List MS) (k : Nat) (h : k < L.length) : lvL 0 (L.take (k + 1)) = if (L.getD k noM).dead then lvL 0 (L.take k) else lvL 0 (L.take k) ++ [k] := by
  rw [take_more L noM k h, lvL_app, List.length_take, Nat.zero_add, Nat.min_eq_left (by omega)]
theorem lvL_len : ∀ (L : List MS) (i : Nat), (lvL i L).length ≤ L.length
  | [], _ => by simp [lvL]
  | S :: L, i => by
    have := lvL_len L (i + 1)
    simp only [lvL]
    split
    · simp; omega
    · simp; omega
theorem lvL_lt : ∀ (L : List MS) (i : Nat), ∀ x ∈ lvL i L, x < i + L.length
  | [], _, x, h => by simp [lvL] at h
  | S :: L, i, x, h => by
    simp only [lvL] at h
    simp only [List.length_cons]
    split at h
    · have := lvL_lt L (i + 1) x h; omega
    · rcases List.mem_cons.1 h with rfl | h
      · omega
      · have := lvL_lt L (i + 1) x h; omega
theorem crM_len (ks : Nat → List Nat) : ∀ (L : List MS) (i k : Nat), (crM ks i k L).length = L.length
  | [], _, _ => rfl
  | S :: L, i, k => by simp only [crM, List.length_cons, crM_len ks L]
theorem crM_none (ks : Nat → List Nat) : ∀ (L : List MS) (i k : Nat), k ≤ i → crM ks i k L = L
  | [], _, _, _ => rfl
  | S :: L, i, k, h => by simp only [crM]; rw [if_neg (by omega), crM_none ks L (i + 1) k (by omega)]
theorem crM_at (ks : Nat → List Nat) : ∀ (L : List MS) (i k j : Nat), j < L.length → (crM ks i k L).getD j noM = if i + j < k then cr (L.getD j noM) (bit (ks (i + j))) else L.getD j noM
  | [], _, _, j, h => by simp at h
  | S :: L, i, k, 0, h => by simp [crM]
  | S :: L, i, k, j + 1, h => by
    have := crM_at ks L (i + 1) k j (by simpa using h)
    rw [show i + 1 + j = i + (j + 1) by omega] at this
    simpa [crM] using this
theorem crM_more (ks : Nat → List Nat) : ∀ (L : List MS) (i k : Nat), k < L.length → crM ks i (i + k + 1) L = (crM ks i (i + k) L).set k (cr (L.getD k noM) (bit (ks (i + k))))
  | [], _, _, h => by simp at h
  | S :: L, i, 0, h => by
    simp only [crM]
    rw [if_pos (by omega), if_neg (by omega), crM_none _ _ _ _ (by omega), crM_none _ _ _ _ (by omega)]
    rfl
  | S :: L, i, k + 1, h => by
    have h1 := crM_more ks L (i + 1) k (by simpa using h)
    simp only [crM, List.set_cons_succ]
    rw [if_pos (by omega), if_pos (by omega)]
    rw [show i + 1 + k + 1 = i + (k + 1) + 1 by omega, show i + 1 + k = i + (k + 1) by omega] at h1
    rw [h1]
    rfl
theorem crM_congr (ks ks' : Nat → List Nat) (h : ∀ i, ks i = ks' i) : ks = ks' := funext h

/-! ### bays as they come -/
structure Gd (B : BS) : Prop where
  n1 : 1 ≤ B.ms.length
  n2 : B.ms.length ≤ 32
  rt : ∀ S ∈ B.ms, Right S
  rl : ∀ S ∈ B.ms, S.row.length ≤ B.g
  md : B.md ≤ B.g
theorem bm_mem {B : BS} {i : Int} (h : fdE B i = 0) : 0 ≤ i ∧ i < B.ms.length ∧ i.toNat < B.ms.length ∧ bm B i ∈ B.ms := by
  unfold fdE at h
  split at h
  · rename_i h1
    have h2 : i.toNat < B.ms.length := by omega
    refine ⟨h1.1, h1.2, h2, ?_⟩
    unfold bm
    rw [List.getD_eq_getElem?_getD, List.getElem?_eq_getElem h2]
    exact List.getElem_mem h2
  · cases h
theorem stE_ok {B : BS} {i : Int} (h : stE B i = 0) : fdE B i = 0 ∧ B.pw ≠ some 0 := by
  unfold stE at h
  split at h
  · rename_i h1
    split at h
    · cases h
    · rename_i h2; exact ⟨h1, h2⟩
  · cases h
theorem Gd.rowAt {B : BS} (h : Gd B) {i : Int} (hi : fdE B i = 0) : (bm B i).row.length ≤ B.g := h.rl _ (bm_mem hi).2.2.2
theorem Gd.rightAt {B : BS} (h : Gd B) {i : Int} (hi : fdE B i = 0) : Right (bm B i) := h.rt _ (bm_mem hi).2.2.2
theorem Gd.put {B : BS} (h : Gd B) (i : Int) (S : MS) (h1 : Right S) (h2 : S.row.length ≤ B.g) : Gd (put B i S) := by
  refine ⟨by simpa [Go.Proofs.Ytmklkdopmemfaaa.put] using h.n1, by simpa [Go.Proofs.Ytmklkdopmemfaaa.put] using h.n2, fun R hR => ?_, fun R hR => ?_, h.md⟩
  · rcases List.mem_or_eq_of_mem_set hR with h3 | rfl
    · exact h.rt R h3
    · exact h1
  · rcases List.mem_or_eq_of_mem_set hR with h3 | rfl
    · exact h.rl R h3
    · exact h2
theorem Gd.st {B : BS} (h : Gd B) (i : Int) : Gd (stS B i) := by
  unfold stS
  split
  · exact ⟨h.n1, h.n2, h.rt, fun S hS => Nat.le_succ_of_le (h.rl S hS), Nat.succ_le_succ h.md⟩
  · exact ⟨h.n1, h.n2, h.rt, fun S hS => Nat.le_succ_of_le (h.rl S hS), Nat.le_succ_of_le h.md⟩
theorem stS_ms (B : BS) (i : Int) : (stS B i).ms = B.ms ∧ (stS B i).g = B.g + 1 := by
  unfold stS
  split <;> exact ⟨rfl, rfl⟩
theorem opS_len (B : BS) (i : Int) (f : MS → MS) : (opS B i f).ms.length = B.ms.length ∧ (opS B i f).g = B.g + 1 := by
  unfold opS
  split
  · exact ⟨by simp [put, (stS_ms B i).1], (stS_ms B i).2⟩
  · exact ⟨by rw [(stS_ms B i).1], (stS_ms B i).2⟩
theorem Gd.op {B : BS} (h : Gd B) (i : Int) (f : MS → MS) (h1 : ∀ S, Right S → Right (f S)) (h2 : ∀ S, (f S).row.length ≤ S.row.length + 1) : Gd (opS B i f) := by
  unfold opS
  split
  · rename_i hs
    have hf := (stE_ok hs).1
    refine (h.st i).put i _ (h1 _ (h.rightAt hf)) ?_
    have := h2 (bm B i)
    have := h.rowAt hf
    rw [(stS_ms B i).2]
    omega
  · exact h.st i
theorem Gd.read {B : BS} (h : Gd B) (i k : Int) : Gd (rdB B i k) := by
  unfold rdB
  split
  · rename_i hs
    have hf := (stE_ok hs).1
    refine h.put i _ ((h.rightAt hf).rd k) ?_
    have := h.rowAt hf
    unfold rd
    split <;> exact this
  · exact h
theorem Gd.cut {B : BS} (h : Gd B) (n : Int) : Gd (ctB B n) := ⟨h.n1, h.n2, h.rt, h.rl, h.md⟩
theorem crM_mem (ks : Nat → List Nat) : ∀ (L : List MS) (i k : Nat), ∀ S ∈ crM ks i k L, S ∈ L ∨ ∃ R ∈ L, ∃ f, S = cr R f
  | [], _, _, S, h => by simp [crM] at h
  | R :: L, i, k, S, h => by
    simp only [crM] at h
    rcases List.mem_cons.1 h with rfl | h
    · split
      · exact .inr ⟨R, List.mem_cons_self, _, rfl⟩
      · exact .inl List.mem_cons_self
    · rcases crM_mem ks L (i + 1) k S h with h1 | ⟨R', h1, f, h2⟩
      · exact .inl (List.mem_cons_of_mem _ h1)
      · exact .inr ⟨R', List.mem_cons_of_mem _ h1, f, h2⟩
theorem Gd.crash {B : BS} (h : Gd B) (ks : Nat → List Nat) : Gd (crB B ks) := by
  refine ⟨by show 1 ≤ (crM ks 0 B.ms.length B.ms).length; rw [crM_len]; exact h.n1, by show (crM ks 0 B.ms.length B.ms).length ≤ 32; rw [crM_len]; exact h.n2, fun S hS => ?_, fun S hS => ?_, h.md⟩
  · rcases crM_mem ks _ _ _ S hS with h1 | ⟨R, _, f, rfl⟩
    · exact h.rt S h1
    · exact Right.cr f
  · rcases crM_mem ks _ _ _ S hS with h1 | ⟨R, _, f, rfl⟩
    · exact h.rl S h1
    · exact Nat.zero_le _
theorem Gd.new (n s : Int) : Gd (nwB n s) := by
  refine ⟨by simp [nwB]; omega, by simp [nwB]; omega, fun S hS => ?_, fun S hS => ?_, Nat.le_refl _⟩
  · rw [(List.mem_replicate.1 hS).2]; exact Right.nw _
  · rw [(List.mem_replicate.1 hS).2]; exact Nat.zero_le _
theorem wr_rows (k : Int) (s : ByteArray) (S : MS) : (wr S k s).row.length ≤ S.row.length + 1 := (wr_row S k s).1
theorem fl_rows (S : MS) : (fl S).row.length ≤ S.row.length + 1 := by
  unfold fl
  split
  · omega
  · simp

end Go.Proofs.Ytmklkdopmemfaaa
