/-
  A bay (layer 11) and the document's: their state in memory, and their calls. Conditions: that they lie in memory.
-/
import Derived.Test.YtinpkfdmellleaaGreatZMem
import Derived.Laws.LoneSync
import Derived.RegionTactic
import Derived.RegionCalls
import Derived.Maps.AppendAt
import Derived.Deep.RegionLaw
namespace Go.Proofs.YtinpkfdmellleaaGreat
open Go.RowKit Plain
set_option linter.unusedVariables false

/-- a bay: the steps that are left (none: the power doesn't fail), those made, how many were asked for at most, the members. -/
structure BS where
  pw : Option Nat
  md : Nat
  g : Nat
  ms : List MS
def noM : MS := nw 1
def bm (B : BS) (i : Int) : MS := B.ms.getD i.toNat noM
def fdE (B : BS) (i : Int) : Int := if 0 ≤ i ∧ i < B.ms.length then 0 else 11
def stE (B : BS) (i : Int) : Int := if fdE B i = 0 then (if B.pw = some 0 then 21 else 0) else 11
def stS (B : BS) (i : Int) : BS := if stE B i = 0 then ⟨B.pw.map (· - 1), B.md + 1, B.g + 1, B.ms⟩ else ⟨B.pw, B.md, B.g + 1, B.ms⟩
def put (B : BS) (i : Int) (S : MS) : BS := ⟨B.pw, B.md, B.g, B.ms.set i.toNat S⟩
def opE (B : BS) (i : Int) (f : MS → Int) : Int := if stE B i = 0 then f (bm B i) else stE B i
def opS (B : BS) (i : Int) (f : MS → MS) : BS := if stE B i = 0 then put (stS B i) i (f (bm B i)) else stS B i
def rdT (B : BS) (i k : Int) : ByteArray := if stE B i = 0 then rdS (bm B i) k else ByteArray.empty
def rdE (B : BS) (i k : Int) : Int := if stE B i = 0 then rcE (bm B i) k else stE B i
def rdB (B : BS) (i k : Int) : BS := if stE B i = 0 then put B i (rd (bm B i) k) else B
def ctB (B : BS) (n : Int) : BS := ⟨some n.toNat, B.md, B.g, B.ms⟩
def ofB (B : BS) : Bool := decide (B.pw = some 0)
/-- members behind a crash, the first k of them. -/
def crM (ks : Nat → List Nat) : Nat → Nat → List MS → List MS
  | _, _, [] => []
  | i, k, S :: L => (if i < k then cr S (bit (ks i)) else S) :: crM ks (i + 1) k L
def crB (B : BS) (ks : Nat → List Nat) : BS := ⟨none, B.md, B.g, crM ks 0 B.ms.length B.ms⟩
/-- the members that aren't dead, from the i-th on. -/
def lvL : Nat → List MS → List Nat
  | _, [] => []
  | i, S :: L => if S.dead then lvL (i + 1) L else i :: lvL (i + 1) L
def nwB (n s : Int) : BS := ⟨none, 0, 0, List.replicate (min (max n 1) 32).toNat (nw (nwN s))⟩

theorem lvL_app : ∀ (L : List MS) (i : Nat) (S : MS), lvL i (L ++ [S]) = if S.dead then lvL i L else lvL i L ++ [i + L.length]
  | [], i, S => by simp only [List.nil_append, lvL, List.length_nil, Nat.add_zero]
  | R :: L, i, S => by
    simp only [List.cons_append, lvL, lvL_app L (i + 1) S, List.length_cons, show i + 1 + L.length = i + (L.length + 1) by omega]
    split <;> split <;> rfl
theorem take_more {α : Type} (L : List α) (d : α) (k : Nat) (h : k < L.length) : L.take (k + 1) = L.take k ++ [L.getD k d] := by
  rw [List.take_add_one, List.getElem?_eq_getElem h, List.getD_eq_getElem?_getD, List.getElem?_eq_getElem h]
  rfl
theorem lvL_take (L : List MS) (k : Nat) (h : k < L.length) : lvL 0 (L.take (k + 1)) = if (L.getD k noM).dead then lvL 0 (L.take k) else lvL 0 (L.take k) ++ [k] := by
  rw [take_more L noM k h, lvL_app, List.length_take, Nat.zero_add, Nat.min_eq_left (by omega)]
theorem lvL_len : ∀ (L : List MS) (i : Nat), (lvL i L).length ≤ L.length
  | [], _ => by simp [lvL]
  | S :: L, i => by
    have := lvL_len L (i + 1)
    simp only [lvL]
    split
    · simp; omega
    · simp; omega
theorem lvL_lt : ∀ (L : List MS) (i : Nat), ∀ x ∈ lvL i L, x < i + L.length
  | [], _, x, h => by simp [lvL] at h
  | S :: L, i, x, h => by
    simp only [lvL] at h
    simp only [List.length_cons]
    split at h
    · have := lvL_lt L (i + 1) x h; omega
    · rcases List.mem_cons.1 h with rfl | h
      · omega
      · have := lvL_lt L (i + 1) x h; omega
theorem crM_len (ks : Nat → List Nat) : ∀ (L : List MS) (i k : Nat), (crM ks i k L).length = L.length
  | [], _, _ => rfl
  | S :: L, i, k => by simp only [crM, List.length_cons, crM_len ks L]
theorem crM_none (ks : Nat → List Nat) : ∀ (L : List MS) (i k : Nat), k ≤ i → crM ks i k L = L
  | [], _, _, _ => rfl
  | S :: L, i, k, h => by simp only [crM]; rw [if_neg (by omega), crM_none ks L (i + 1) k (by omega)]
theorem crM_at (ks : Nat → List Nat) : ∀ (L : List MS) (i k j : Nat), j < L.length → (crM ks i k L).getD j noM = if i + j < k then cr (L.getD j noM) (bit (ks (i + j))) else L.getD j noM
  | [], _, _, j, h => by simp at h
  | S :: L, i, k, 0, h => by simp [crM]
  | S :: L, i, k, j + 1, h => by
    have := crM_at ks L (i + 1) k j (by simpa using h)
    rw [show i + 1 + j = i + (j + 1) by omega] at this
    simpa [crM] using this
theorem crM_more (ks : Nat → List Nat) : ∀ (L : List MS) (i k : Nat), k < L.length → crM ks i (i + k + 1) L = (crM ks i (i + k) L).set k (cr (L.getD k noM) (bit (ks (i + k))))
  | [], _, _, h => by simp at h
  | S :: L, i, 0, h => by
    simp only [crM]
    rw [if_pos (by omega), if_neg (by omega), crM_none _ _ _ _ (by omega), crM_none _ _ _ _ (by omega)]
    rfl
  | S :: L, i, k + 1, h => by
    have h1 := crM_more ks L (i + 1) k (by simpa using h)
    simp only [crM, List.set_cons_succ]
    rw [if_pos (by omega), if_pos (by omega)]
    rw [show i + 1 + k + 1 = i + (k + 1) + 1 by omega, show i + 1 + k = i + (k + 1) by omega] at h1
    rw [h1]
    rfl
theorem crM_congr (ks ks' : Nat → List Nat) (h : ∀ i, ks i = ks' i) : ks = ks' := funext h

/-! ### bays as they come -/
structure Gd (B : BS) : Prop where
  n1 : 1 ≤ B.ms.length
  n2 : B.ms.length ≤ 32
  rt : ∀ S ∈ B.ms, Right S
  rl : ∀ S ∈ B.ms, S.row.length ≤ B.g
  md : B.md ≤ B.g
theorem bm_mem {B : BS} {i : Int} (h : fdE B i = 0) : 0 ≤ i ∧ i < B.ms.length ∧ i.toNat < B.ms.length ∧ bm B i ∈ B.ms := by
  unfold fdE at h
  split at h
  · rename_i h1
    have h2 : i.toNat < B.ms.length := by omega
    refine ⟨h1.1, h1.2, h2, ?_⟩
    unfold bm
    rw [List.getD_eq_getElem?_getD, List.getElem?_eq_getElem h2]
    exact List.getElem_mem h2
  · cases h
theorem stE_ok {B : BS} {i : Int} (h : stE B i = 0) : fdE B i = 0 ∧ B.pw ≠ some 0 := by
  unfold stE at h
  split at h
  · rename_i h1
    split at h
    · cases h
    · rename_i h2; exact ⟨h1, h2⟩
  · cases h
theorem Gd.rowAt {B : BS} (h : Gd B) {i : Int} (hi : fdE B i = 0) : (bm B i).row.length ≤ B.g := h.rl _ (bm_mem hi).2.2.2
theorem Gd.rightAt {B : BS} (h : Gd B) {i : Int} (hi : fdE B i = 0) : Right (bm B i) := h.rt _ (bm_mem hi).2.2.2
theorem Gd.put {B : BS} (h : Gd B) (i : Int) (S : MS) (h1 : Right S) (h2 : S.row.length ≤ B.g) : Gd (put B i S) := by
  refine ⟨by simpa [Go.Proofs.YtinpkfdmellleaaGreat.put] using h.n1, by simpa [Go.Proofs.YtinpkfdmellleaaGreat.put] using h.n2, fun R hR => ?_, fun R hR => ?_, h.md⟩
  · rcases List.mem_or_eq_of_mem_set hR with h3 | rfl
    · exact h.rt R h3
    · exact h1
  · rcases List.mem_or_eq_of_mem_set hR with h3 | rfl
    · exact h.rl R h3
    · exact h2
theorem Gd.st {B : BS} (h : Gd B) (i : Int) : Gd (stS B i) := by
  unfold stS
  split
  · exact ⟨h.n1, h.n2, h.rt, fun S hS => Nat.le_succ_of_le (h.rl S hS), Nat.succ_le_succ h.md⟩
  · exact ⟨h.n1, h.n2, h.rt, fun S hS => Nat.le_succ_of_le (h.rl S hS), Nat.le_succ_of_le h.md⟩
theorem stS_ms (B : BS) (i : Int) : (stS B i).ms = B.ms ∧ (stS B i).g = B.g + 1 := by
  unfold stS
  split <;> exact ⟨rfl, rfl⟩
theorem opS_len (B : BS) (i : Int) (f : MS → MS) : (opS B i f).ms.length = B.ms.length ∧ (opS B i f).g = B.g + 1 := by
  unfold opS
  split
  · exact ⟨by simp [put, (stS_ms B i).1], (stS_ms B i).2⟩
  · exact ⟨by rw [(stS_ms B i).1], (stS_ms B i).2⟩
theorem Gd.op {B : BS} (h : Gd B) (i : Int) (f : MS → MS) (h1 : ∀ S, Right S → Right (f S)) (h2 : ∀ S, (f S).row.length ≤ S.row.length + 1) : Gd (opS B i f) := by
  unfold opS
  split
  · rename_i hs
    have hf := (stE_ok hs).1
    refine (h.st i).put i _ (h1 _ (h.rightAt hf)) ?_
    have := h2 (bm B i)
    have := h.rowAt hf
    rw [(stS_ms B i).2]
    omega
  · exact h.st i
theorem Gd.read {B : BS} (h : Gd B) (i k : Int) : Gd (rdB B i k) := by
  unfold rdB
  split
  · rename_i hs
    have hf := (stE_ok hs).1
    refine h.put i _ ((h.rightAt hf).rd k) ?_
    have := h.rowAt hf
    unfold rd
    split <;> exact this
  · exact h
theorem Gd.cut {B : BS} (h : Gd B) (n : Int) : Gd (ctB B n) := ⟨h.n1, h.n2, h.rt, h.rl, h.md⟩
theorem crM_mem (ks : Nat → List Nat) : ∀ (L : List MS) (i k : Nat), ∀ S ∈ crM ks i k L, S ∈ L ∨ ∃ R ∈ L, ∃ f, S = cr R f
  | [], _, _, S, h => by simp [crM] at h
  | R :: L, i, k, S, h => by
    simp only [crM] at h
    rcases List.mem_cons.1 h with rfl | h
    · split
      · exact .inr ⟨R, List.mem_cons_self, _, rfl⟩
      · exact .inl List.mem_cons_self
    · rcases crM_mem ks L (i + 1) k S h with h1 | ⟨R', h1, f, h2⟩
      · exact .inl (List.mem_cons_of_mem _ h1)
      · exact .inr ⟨R', List.mem_cons_of_mem _ h1, f, h2⟩
theorem Gd.crash {B : BS} (h : Gd B) (ks : Nat → List Nat) : Gd (crB B ks) := by
  refine ⟨by show 1 ≤ (crM ks 0 B.ms.length B.ms).length; rw [crM_len]; exact h.n1, by show (crM ks 0 B.ms.length B.ms).length ≤ 32; rw [crM_len]; exact h.n2, fun S hS => ?_, fun S hS => ?_, h.md⟩
  · rcases crM_mem ks _ _ _ S hS with h1 | ⟨R, _, f, rfl⟩
    · exact h.rt S h1
    · exact Right.cr f
  · rcases crM_mem ks _ _ _ S hS with h1 | ⟨R, _, f, rfl⟩
    · exact h.rl S h1
    · exact Nat.zero_le _
theorem Gd.new (n s : Int) : Gd (nwB n s) := by
  refine ⟨by simp [nwB]; omega, by simp [nwB]; omega, fun S hS => ?_, fun S hS => ?_, Nat.le_refl _⟩
  · rw [(List.mem_replicate.1 hS).2]; exact Right.nw _
  · rw [(List.mem_replicate.1 hS).2]; exact Nat.zero_le _
theorem wr_rows (k : Int) (s : ByteArray) (S : MS) : (wr S k s).row.length ≤ S.row.length + 1 := (wr_row S k s).1
theorem fl_rows (S : MS) : (fl S).row.length ≤ S.row.length + 1 := by
  unfold fl
  split
  · omega
  · simp

end Go.Proofs.YtinpkfdmellleaaGreat

namespace Go.Proofs.YtinpkfdmellleaaGreat
open Go.RowKit Plain
set_option linter.unusedVariables false

/-- an object's law: its blocks are there, and new; it stays where others are turned. -/
structure OL {σ : Type} (O : World → World → Nat → List Nat → σ → Prop) : Prop where
  low : ∀ {w0 w : World} {b : Nat} {T : List Nat} {S : σ}, O w0 w b T S → ∀ t, t ∈ T → t < w.heap.size
  new : ∀ {w0 w : World} {b : Nat} {T : List Nat} {S : σ}, O w0 w b T S → ∀ t, t ∈ T → w0.heap.size ≤ t
  sp : ∀ {w0 w w' : World} {b : Nat} {T T' : List Nat} {S : σ}, O w0 w b T S → Sp T' w w' → (∀ t, t ∈ T → t ∉ T') → O w0 w' b T S
/-- behind a call on it. -/
def Nz {σ : Type} (O : World → World → Nat → List Nat → σ → Prop) (w0 w w' : World) (b : Nat) (T : List Nat) (S : σ) : Prop := ∃ T', O w0 w' b T' S ∧ Sp T w w' ∧ Nw w T T'
theorem OL.ow : OL Ow := ⟨fun h => h.low, fun h => h.new, fun h k hT => h.sp k hT⟩
theorem Nz.below {σ : Type} {O : World → World → Nat → List Nat → σ → Prop} (L : OL O) {w0 w w' : World} {b : Nat} {T : List Nat} {S S' : σ} (h : Nz O w0 w w' b T S) (h0 : O w0 w b T S') (k : Kp w0 w) : Kp w0 w' := by
  obtain ⟨T', h1, h2, h3⟩ := h
  exact Sp.kp k h2 (L.new h0)
theorem Nz.refl {σ : Type} {O : World → World → Nat → List Nat → σ → Prop} {w0 w : World} {b : Nat} {T : List Nat} {S : σ} (h : O w0 w b T S) : Nz O w0 w w b T S := ⟨T, h, Sp.refl _ _, Nw.refl _ _⟩
theorem Nz.kp {σ : Type} {O : World → World → Nat → List Nat → σ → Prop} (L : OL O) {w0 w w' w'' : World} {b : Nat} {T : List Nat} {S : σ} (h : Nz O w0 w w' b T S) (k : Kp w' w'') : Nz O w0 w w'' b T S := by
  obtain ⟨T', h1, h2, h3⟩ := h
  exact ⟨T', L.sp h1 (k.sp []) (fun _ _ h => by cases h), h2.trans (k.sp _), h3⟩
theorem Nz.trans {σ : Type} {O : World → World → Nat → List Nat → σ → Prop} {w0 w w' w'' : World} {b : Nat} {T : List Nat} {S S' : σ} (h : Nz O w0 w w' b T S) (k : ∀ T', O w0 w' b T' S → Nz O w0 w' w'' b T' S') : Nz O w0 w w'' b T S' := by
  obtain ⟨T', h1, h2, h3⟩ := h
  obtain ⟨T2, q1, q2, q3⟩ := k T' h1
  exact ⟨T2, q1, h2.then q2 h3, h3.trans q3 h2.size⟩

/-! ### a family -/
def Fam {σ : Type} (O : World → World → Nat → List Nat → σ → Prop) (w0 w : World) : List Nat → List σ → List Nat → Prop
  | [], [], T => T = []
  | x :: X, S :: Ss, T => ∃ P Q, T = P ++ Q ∧ O w0 w x P S ∧ Fam O w0 w X Ss Q ∧ Dj P Q
  | _, _, _ => False
section
variable {σ : Type} {O : World → World → Nat → List Nat → σ → Prop}
theorem Fam.len {w0 w : World} : ∀ {X : List Nat} {Ss : List σ} {T : List Nat}, Fam O w0 w X Ss T → X.length = Ss.length
  | [], [], _, _ => rfl
  | _ :: _, _ :: _, _, ⟨_, _, _, _, h, _⟩ => by simp [Fam.len h]
  | [], _ :: _, _, h => h.elim
  | _ :: _, [], _, h => h.elim
theorem Fam.low (L : OL O) {w0 w : World} : ∀ {X : List Nat} {Ss : List σ} {T : List Nat}, Fam O w0 w X Ss T → ∀ t, t ∈ T → t < w.heap.size
  | [], [], _, h, t, ht => by rw [show _ = [] from h] at ht; cases ht
  | _ :: _, _ :: _, _, ⟨P, Q, e, h1, h, _⟩, t, ht => by
    rw [e] at ht
    rcases List.mem_append.1 ht with ht | ht
    · exact L.low h1 t ht
    · exact Fam.low L h t ht
  | [], _ :: _, _, h, _, _ => h.elim
  | _ :: _, [], _, h, _, _ => h.elim
theorem Fam.new (L : OL O) {w0 w : World} : ∀ {X : List Nat} {Ss : List σ} {T : List Nat}, Fam O w0 w X Ss T → ∀ t, t ∈ T → w0.heap.size ≤ t
  | [], [], _, h, t, ht => by rw [show _ = [] from h] at ht; cases ht
  | _ :: _, _ :: _, _, ⟨P, Q, e, h1, h, _⟩, t, ht => by
    rw [e] at ht
    rcases List.mem_append.1 ht with ht | ht
    · exact L.new h1 t ht
    · exact Fam.new L h t ht
  | [], _ :: _, _, h, _, _ => h.elim
  | _ :: _, [], _, h, _, _ => h.elim
theorem Fam.sp (L : OL O) {w0 w w' : World} {T' : List Nat} (k : Sp T' w w') : ∀ {X : List Nat} {Ss : List σ} {T : List Nat}, Fam O w0 w X Ss T → (∀ t, t ∈ T → t ∉ T') → Fam O w0 w' X Ss T
  | [], [], _, h, _ => h
  | _ :: _, _ :: _, _, ⟨P, Q, e, h1, h, d⟩, hd => ⟨P, Q, e, L.sp h1 k (fun t ht => hd t (by rw [e]; exact List.mem_append_left _ ht)), Fam.sp L k h (fun t ht => hd t (by rw [e]; exact List.mem_append_right _ ht)), d⟩
  | [], _ :: _, _, h, _ => h.elim
  | _ :: _, [], _, h, _ => h.elim
theorem Fam.kp (L : OL O) {w0 w w' : World} (k : Kp w w') {X : List Nat} {Ss : List σ} {T : List Nat} (h : Fam O w0 w X Ss T) : Fam O w0 w' X Ss T := h.sp L (k.sp []) (fun _ _ h => by cases h)
/-- one of them, and what a call on it leaves. -/
theorem Fam.at (L : OL O) {w0 w : World} (d : σ) : ∀ {X : List Nat} {Ss : List σ} {T : List Nat} (i : Nat), Fam O w0 w X Ss T → i < Ss.length → ∃ P, (∀ t, t ∈ P → t ∈ T) ∧ O w0 w (X.getD i 0) P (Ss.getD i d) ∧ ∀ w' S', Nz O w0 w w' (X.getD i 0) P S' → ∃ T', Fam O w0 w' X (Ss.set i S') T' ∧ Sp T w w' ∧ Nw w T T'
  | [], [], _, i, _, hi => by simp at hi
  | x :: X, S :: Ss, T, 0, ⟨P, Q, e, h1, h, dj⟩, _ => by
    refine ⟨P, fun t ht => by rw [e]; exact List.mem_append_left _ ht, h1, fun w' S' ⟨P', q1, q2, q3⟩ => ⟨P' ++ Q, ⟨P', Q, rfl, q1, h.sp L q2 dj.symm, fun t ht ht2 => ?_⟩, ?_, ?_⟩⟩
    · rcases q3 t ht with h5 | h5
      · exact dj t h5 ht2
      · have := h.low L t ht2; omega
    · rw [e]; exact q2.mono (fun t ht => List.mem_append_left _ ht)
    · rw [e]
      intro t ht
      rcases List.mem_append.1 ht with h5 | h5
      · rcases q3 t h5 with h6 | h6
        · exact .inl (List.mem_append_left _ h6)
        · exact .inr h6
      · exact .inl (List.mem_append_right _ h5)
  | x :: X, S :: Ss, T, i + 1, ⟨P, Q, e, h1, h, dj⟩, hi => by
    obtain ⟨R, r1, r2, r3⟩ := Fam.at L d i h (by simpa using hi)
    refine ⟨R, fun t ht => by rw [e]; exact List.mem_append_right _ (r1 t ht), r2, fun w' S' hn => ?_⟩
    obtain ⟨Q', q1, q2, q3⟩ := r3 w' S' hn
    refine ⟨P ++ Q', ⟨P, Q', rfl, L.sp h1 q2 dj, q1, fun t ht ht2 => ?_⟩, ?_, ?_⟩
    · rcases q3 t ht2 with h5 | h5
      · exact dj t ht h5
      · have := L.low h1 t ht; omega
    · rw [e]; exact q2.mono (fun t ht => List.mem_append_right _ ht)
    · rw [e]
      intro t ht
      rcases List.mem_append.1 ht with h5 | h5
      · exact .inl (List.mem_append_left _ h5)
      · rcases q3 t h5 with h6 | h6
        · exact .inl (List.mem_append_right _ h6)
        · exact .inr h6
  | [], _ :: _, _, _, h, _ => h.elim
  | _ :: _, [], _, _, h, _ => h.elim
/-- one of them, and a call that leaves it as it is, at its own blocks. -/
theorem Fam.same (L : OL O) {w0 w : World} (d : σ) : ∀ {X : List Nat} {Ss : List σ} {T : List Nat} (i : Nat), Fam O w0 w X Ss T → i < Ss.length → ∃ P, (∀ t, t ∈ P → t ∈ T) ∧ O w0 w (X.getD i 0) P (Ss.getD i d) ∧ ∀ w', O w0 w' (X.getD i 0) P (Ss.getD i d) → Sp P w w' → Fam O w0 w' X Ss T
  | [], [], _, i, _, hi => by simp at hi
  | x :: X, S :: Ss, T, 0, ⟨P, Q, e, h1, h, dj⟩, _ => ⟨P, fun t ht => by rw [e]; exact List.mem_append_left _ ht, h1, fun w' q1 q2 => ⟨P, Q, e, q1, h.sp L q2 dj.symm, dj⟩⟩
  | x :: X, S :: Ss, T, i + 1, ⟨P, Q, e, h1, h, dj⟩, hi => by
    obtain ⟨R, r1, r2, r3⟩ := Fam.same L d i h (by simpa using hi)
    exact ⟨R, fun t ht => by rw [e]; exact List.mem_append_right _ (r1 t ht), r2, fun w' q1 q2 => ⟨P, Q, e, L.sp h1 q2 (fun t ht ht2 => dj t ht (r1 t ht2)), r3 w' q1 q2, dj⟩⟩
  | [], _ :: _, _, _, h, _ => h.elim
  | _ :: _, [], _, _, h, _ => h.elim
/-- one more. -/
theorem Fam.snoc (L : OL O) {w0 w : World} {x : Nat} {P : List Nat} {S : σ} (ho : O w0 w x P S) : ∀ {X : List Nat} {Ss : List σ} {T : List Nat}, Fam O w0 w X Ss T → Dj T P → Fam O w0 w (X ++ [x]) (Ss ++ [S]) (T ++ P)
  | [], [], T, h, _ => ⟨P, [], by rw [show T = [] from h]; simp, ho, rfl, fun t _ h => by cases h⟩
  | y :: X, R :: Ss, T, ⟨A, Q, e, h1, h, dj⟩, hd => by
    refine ⟨A, Q ++ P, by rw [e, List.append_assoc], h1, Fam.snoc L ho h (fun t ht => hd t (by rw [e]; exact List.mem_append_right _ ht)), fun t ht ht2 => ?_⟩
    rcases List.mem_append.1 ht2 with h5 | h5
    · exact dj t ht h5
    · exact hd t (by rw [e]; exact List.mem_append_left _ ht) h5
  | [], _ :: _, _, h, _ => h.elim
  | _ :: _, [], _, h, _ => h.elim
end

/-! ### two -/
def Both {σ τ : Type} (O : World → World → Nat → List Nat → σ → Prop) (Q : World → World → Nat → List Nat → τ → Prop) (w0 w : World) (x y : Nat) (T : List Nat) (A : σ) (B : τ) : Prop := ∃ P R, T = P ++ R ∧ O w0 w x P A ∧ Q w0 w y R B ∧ Dj P R
section
variable {σ τ : Type} {O : World → World → Nat → List Nat → σ → Prop} {Q : World → World → Nat → List Nat → τ → Prop}
theorem Both.new (L : OL O) (M : OL Q) {w0 w : World} {x y : Nat} {T : List Nat} {A : σ} {B : τ} (h : Both O Q w0 w x y T A B) : ∀ t, t ∈ T → w0.heap.size ≤ t := by
  obtain ⟨P, R, rfl, h1, h2, _⟩ := h
  intro t ht
  rcases List.mem_append.1 ht with ht | ht
  · exact L.new h1 t ht
  · exact M.new h2 t ht
theorem Both.low (L : OL O) (M : OL Q) {w0 w : World} {x y : Nat} {T : List Nat} {A : σ} {B : τ} (h : Both O Q w0 w x y T A B) : ∀ t, t ∈ T → t < w.heap.size := by
  obtain ⟨P, R, rfl, h1, h2, _⟩ := h
  intro t ht
  rcases List.mem_append.1 ht with ht | ht
  · exact L.low h1 t ht
  · exact M.low h2 t ht
theorem Both.sp (L : OL O) (M : OL Q) {w0 w w' : World} {x y : Nat} {T T' : List Nat} {A : σ} {B : τ} (h : Both O Q w0 w x y T A B) (k : Sp T' w w') (hd : ∀ t, t ∈ T → t ∉ T') : Both O Q w0 w' x y T A B := by
  obtain ⟨P, R, rfl, h1, h2, h3⟩ := h
  exact ⟨P, R, rfl, L.sp h1 k (fun t ht => hd t (List.mem_append_left _ ht)), M.sp h2 k (fun t ht => hd t (List.mem_append_right _ ht)), h3⟩
theorem Both.kp (L : OL O) (M : OL Q) {w0 w w' : World} {x y : Nat} {T : List Nat} {A : σ} {B : τ} (h : Both O Q w0 w x y T A B) (k : Kp w w') : Both O Q w0 w' x y T A B := h.sp L M (k.sp []) (fun _ _ h => by cases h)
/-- behind calls, from W on. -/
def Bx (O : World → World → Nat → List Nat → σ → Prop) (Q : World → World → Nat → List Nat → τ → Prop) (w0 W : World) (x y : Nat) (T : List Nat) (A : σ) (B : τ) (w' : World) : Prop := ∃ T', Both O Q w0 w' x y T' A B ∧ Sp T W w' ∧ Nw W T T'
theorem Bx.refl {w0 w : World} {x y : Nat} {T : List Nat} {A : σ} {B : τ} (h : Both O Q w0 w x y T A B) : Bx O Q w0 w x y T A B w := ⟨T, h, Sp.refl _ _, Nw.refl _ _⟩
theorem Bx.kp (L : OL O) (M : OL Q) {w0 W w' w'' : World} {x y : Nat} {T : List Nat} {A : σ} {B : τ} (h : Bx O Q w0 W x y T A B w') (k : Kp w' w'') : Bx O Q w0 W x y T A B w'' := by
  obtain ⟨T', h1, h2, h3⟩ := h
  exact ⟨T', h1.kp L M k, h2.trans (k.sp _), h3⟩
theorem Bx.below {w0 W w' : World} {x y : Nat} {T : List Nat} {A : σ} {B : τ} (h : Bx O Q w0 W x y T A B w') (K : Kp w0 W) (hT : ∀ t, t ∈ T → w0.heap.size ≤ t) : Kp w0 w' := by
  obtain ⟨T', h1, h2, h3⟩ := h
  exact Sp.kp K h2 hT
theorem Bx.held {w0 W w' : World} {x y : Nat} {T : List Nat} {A : σ} {B : τ} (h : Bx O Q w0 W x y T A B w') {b o : Nat} {v : Value} (hc : W.cell? ⟨b, o, none⟩ = some v) (hb : b ∉ T) : w'.cell? ⟨b, o, none⟩ = some v := by
  obtain ⟨T', h1, h2, h3⟩ := h
  exact h2.held hc hb
theorem Bx.trans {w0 W W' w' : World} {x y : Nat} {T T' : List Nat} {A : σ} {B : τ} (h2 : Sp T W W') (h3 : Nw W T T') (h : Bx O Q w0 W' x y T' A B w') : Bx O Q w0 W x y T A B w' := by
  obtain ⟨T2, q1, q2, q3⟩ := h
  exact ⟨T2, q1, h2.then q2 h3, h3.trans q3 h2.size⟩
theorem Bx.from {w0 W W' w' : World} {x y : Nat} {T : List Nat} {A : σ} {B : τ} (k : Kp W W') (h : Bx O Q w0 W' x y T A B w') : Bx O Q w0 W x y T A B w' := Bx.trans (k.sp T) (Nw.refl _ _) h
/-- a call on the first. -/
theorem Bx.one (L : OL O) (M : OL Q) {w0 W w' w'' : World} {x y : Nat} {T : List Nat} {A A' : σ} {B : τ} (h : Bx O Q w0 W x y T A B w') (hc : ∀ P, O w0 w' x P A → Nz O w0 w' w'' x P A') : Bx O Q w0 W x y T A' B w'' := by
  obtain ⟨T', ⟨P, R, rfl, h1, h2, d⟩, q2, q3⟩ := h
  obtain ⟨P', p1, p2, p3⟩ := hc P h1
  have d' : Dj P' R := fun t ht ht2 => by
    rcases p3 t ht with h5 | h5
    · exact d t h5 ht2
    · have := M.low h2 t ht2; omega
  refine ⟨P' ++ R, ⟨P', R, rfl, p1, M.sp h2 p2 d.symm, d'⟩, q2.then (p2.mono fun t ht => List.mem_append_left _ ht) q3, q3.trans (fun t ht => ?_) q2.size⟩
  rcases List.mem_append.1 ht with h5 | h5
  · rcases p3 t h5 with h6 | h6
    · exact .inl (List.mem_append_left _ h6)
    · exact .inr h6
  · exact .inl (List.mem_append_right _ h5)
/-- a call on the second. -/
theorem Bx.two (L : OL O) (M : OL Q) {w0 W w' w'' : World} {x y : Nat} {T : List Nat} {A : σ} {B B' : τ} (h : Bx O Q w0 W x y T A B w') (hc : ∀ P, Q w0 w' y P B → Nz Q w0 w' w'' y P B') : Bx O Q w0 W x y T A B' w'' := by
  obtain ⟨T', ⟨P, R, rfl, h1, h2, d⟩, q2, q3⟩ := h
  obtain ⟨R', p1, p2, p3⟩ := hc R h2
  have d' : Dj P R' := fun t ht ht2 => by
    rcases p3 t ht2 with h5 | h5
    · exact d t ht h5
    · have := L.low h1 t ht; omega
  refine ⟨P ++ R', ⟨P, R', rfl, L.sp h1 p2 d, p1, d'⟩, q2.then (p2.mono fun t ht => List.mem_append_right _ ht) q3, q3.trans (fun t ht => ?_) q2.size⟩
  rcases List.mem_append.1 ht with h5 | h5
  · exact .inl (List.mem_append_left _ h5)
  · rcases p3 t h5 with h6 | h6
    · exact .inl (List.mem_append_right _ h6)
    · exact .inr h6
end

end Go.Proofs.YtinpkfdmellleaaGreat

namespace Go.Proofs.YtinpkfdmellleaaGreat
open Go.RowKit Plain
set_option linter.unusedVariables false

def b01 (b : Bool) : Int := if b then 1 else 0
/-- a bay's power: is a number set, that number (it may be below 0), the steps made. -/
structure PwIn (w : World) (b : Nat) (v : Value) (pw : Option Nat) (md g : Nat) : Prop where
  hb : b < w.heap.size
  c0 : w.cell? ⟨b, 0, none⟩ = some (.int .u32 (b01 pw.isSome))
  c1 : ∃ l : Int, w.cell? ⟨b, 1, none⟩ = some (.int .i64 l) ∧ (∀ k, pw = some k → l.toNat = k) ∧ -(g : Int) ≤ l ∧ l ≤ 9223372036854775807
  c2 : w.cell? ⟨b, 2, none⟩ = some (.int .i64 (md : Int))
  z : ∀ o, w.frozen? ⟨b, o, none⟩ = false
  c3 : w.cell? ⟨b, 3, none⟩ = some v
theorem PwIn.sp {w w' : World} {b : Nat} {v : Value} {pw : Option Nat} {md g : Nat} (h : PwIn w b v pw md g) {T : List Nat} (k : Sp T w w') (hb : b ∉ T) : PwIn w' b v pw md g := by
  obtain ⟨l, h1, h2⟩ := h.c1
  exact ⟨Nat.lt_of_lt_of_le h.hb k.size, k.held h.c0 hb, ⟨l, k.held h1 hb, h2⟩, k.held h.c2 hb, fun o => (k.frozen h.hb hb o).trans (h.z o), k.held h.c3 hb⟩
theorem PwIn.more {w : World} {b : Nat} {v : Value} {pw : Option Nat} {md g : Nat} (h : PwIn w b v pw md g) : PwIn w b v pw md (g + 1) := by
  obtain ⟨l, h1, h2, h3, h4⟩ := h.c1
  exact ⟨h.hb, h.c0, ⟨l, h1, h2, by omega, h4⟩, h.c2, h.z, h.c3⟩
theorem PwIn.fails {w : World} {b : Nat} {v : Value} {pw : Option Nat} {md g : Nat} (h : PwIn w b v pw md g) : PwIn (w.setCell ⟨b, 0, none⟩ (.int .u32 0)) b v none md g := by
  obtain ⟨l, h1, h2, h3, h4⟩ := h.c1
  exact ⟨by simpa [World.setCell] using h.hb, World.cell?_setCell_same _ _ _ h.c0, ⟨l, by rw [cell_off _ _ _ _ _ (by omega)]; exact h1, fun k hk => (by cases hk), h3, h4⟩, by rw [cell_off _ _ _ _ _ (by omega)]; exact h.c2, fun o => (World.frozen?_setCell _ _ _ _).trans (h.z o), by rw [cell_off _ _ _ _ _ (by omega)]; exact h.c3⟩
/-- left, then fails. -/
theorem PwIn.set {w : World} {b : Nat} {v : Value} {pw : Option Nat} {md g : Nat} (h : PwIn w b v pw md g) (l : Int) (h0 : 0 ≤ l) (h9 : l ≤ 9223372036854775807) : PwIn ((w.setCell ⟨b, 1, none⟩ (.int .i64 l)).setCell ⟨b, 0, none⟩ (.int .u32 1)) b v (some l.toNat) md g := by
  obtain ⟨l', h1, h2, h3, h4⟩ := h.c1
  have e0 : (w.setCell ⟨b, 1, none⟩ (.int .i64 l)).cell? ⟨b, 0, none⟩ = some (.int .u32 (b01 pw.isSome)) := by rw [cell_off _ _ _ _ _ (by omega)]; exact h.c0
  refine ⟨by simpa [World.setCell] using h.hb, World.cell?_setCell_same _ _ _ e0, ⟨l, ?_, fun k hk => (by cases hk; rfl), by omega, h9⟩, ?_, fun o => (World.frozen?_setCell _ _ _ _).trans ((World.frozen?_setCell _ _ _ _).trans (h.z o)), by rw [cell_off _ _ _ _ _ (by omega), cell_off _ _ _ _ _ (by omega)]; exact h.c3⟩
  · rw [cell_off _ _ _ _ _ (by omega)]; exact World.cell?_setCell_same _ _ _ h1
  · rw [cell_off _ _ _ _ _ (by omega), cell_off _ _ _ _ _ (by omega)]; exact h.c2
/-- the number that is left, one less. -/
theorem PwIn.less {w : World} {b : Nat} {v : Value} {k md g : Nat} (h : PwIn w b v (some k) md g) (l : Int) (hl : w.cell? ⟨b, 1, none⟩ = some (.int .i64 l)) : PwIn (w.setCell ⟨b, 1, none⟩ (.int .i64 (l - 1))) b v (some (k - 1)) md (g + 1) := by
  obtain ⟨l', h1, h2, h3, h4⟩ := h.c1
  rw [hl] at h1
  cases h1
  have := h2 k rfl
  refine ⟨by simpa [World.setCell] using h.hb, by rw [cell_off _ _ _ _ _ (by omega)]; exact h.c0, ⟨l - 1, World.cell?_setCell_same _ _ _ hl, fun j hj => by cases hj; omega, by omega, by omega⟩, by rw [cell_off _ _ _ _ _ (by omega)]; exact h.c2, fun o => (World.frozen?_setCell _ _ _ _).trans (h.z o), by rw [cell_off _ _ _ _ _ (by omega)]; exact h.c3⟩
theorem PwIn.step {w : World} {b : Nat} {v : Value} {pw : Option Nat} {md g : Nat} (h : PwIn w b v pw md g) : PwIn (w.setCell ⟨b, 2, none⟩ (.int .i64 ((md + 1 : Nat) : Int))) b v pw (md + 1) g := by
  obtain ⟨l, h1, h2, h3, h4⟩ := h.c1
  exact ⟨by simpa [World.setCell] using h.hb, by rw [cell_off _ _ _ _ _ (by omega)]; exact h.c0, ⟨l, by rw [cell_off _ _ _ _ _ (by omega)]; exact h1, h2, h3, h4⟩, World.cell?_setCell_same _ _ _ h.c2, fun o => (World.frozen?_setCell _ _ _ _).trans (h.z o), by rw [cell_off _ _ _ _ _ (by omega)]; exact h.c3⟩

/-! ### the atomic cells -/
theorem bload (a : Addr) (d : Bool) (w : World) (hc : w.cell? a = some (.int .u32 (b01 d))) : Calls Tryz.prog 133 #[.pointer (some a)] w fun e w' => e = .returned (.bool d) ∧ w' = w := by
  have hl := run_call_load (P := Tryz.prog) Tryz.func151 (by kernel_rfl) (by kernel_rfl) (by kernel_rfl) .u32 (by kernel_rfl) hc
  cases d with
  | true =>
    simp only [b01, if_true] at hl
    go_enter Tryz.func133, Tryz.ntmps133
    go_wp2
    go_ret
    exact ⟨rfl, rfl⟩
  | false =>
    simp only [b01, Bool.false_eq_true, if_false] at hl
    go_enter Tryz.func133, Tryz.ntmps133
    go_wp2
    go_ret
    exact ⟨rfl, rfl⟩
theorem bstore (a : Addr) (x : Value) (d : Bool) (w : World) (hc : w.cell? a = some x) (hz : w.frozen? a = false) : Calls Tryz.prog 128 #[.pointer (some a), .bool d] w fun e w' => e = .returned (.tuple #[]) ∧ w' = w.drew.setCell a (.int .u32 (b01 d)) := by
  have hc' : w.drew.cell? a = some x := by go_simp
  have hz' : w.drew.frozen? a = false := by go_simp
  cases d with
  | true =>
    have hst := run_call_store (P := Tryz.prog) Tryz.func149 (by kernel_rfl) (by kernel_rfl) (by kernel_rfl) (by kernel_rfl) (k := .u32) (y := 1) hc' hz'
    go_enter Tryz.func128, Tryz.ntmps128
    go_wp2
    go_region_calls
    all_goals (go_end0; exact ⟨rfl, rfl⟩)
  | false =>
    have hst := run_call_store (P := Tryz.prog) Tryz.func149 (by kernel_rfl) (by kernel_rfl) (by kernel_rfl) (by kernel_rfl) (k := .u32) (y := 0) hc' hz'
    go_enter Tryz.func128, Tryz.ntmps128
    go_wp2
    go_region_calls
    all_goals (go_end0; exact ⟨rfl, rfl⟩)
theorem istore (a : Addr) (x : Value) (d : Int) (w : World) (hc : w.cell? a = some x) (hz : w.frozen? a = false) : Calls Tryz.prog 127 #[.pointer (some a), .int .i64 d] w fun e w' => e = .returned (.tuple #[]) ∧ w' = w.setCell a (.int .i64 d) := by
  have hst := run_call_store (P := Tryz.prog) Tryz.func148 (by kernel_rfl) (by kernel_rfl) (by kernel_rfl) (by kernel_rfl) (k := .i64) (y := d) hc hz
  go_enter Tryz.func127, Tryz.ntmps127
  go_wp2
  go_end0
  exact ⟨rfl, rfl⟩
theorem iadd (a : Addr) (d y s : Int) (w : World) (hc : w.cell? a = some (.int .i64 d)) (hz : w.frozen? a = false) (hs : s = d + y) (h1 : -9223372036854775808 ≤ s) (h2 : s ≤ 9223372036854775807) : Calls Tryz.prog 78 #[.pointer (some a), .int .i64 y] w fun e w' => e = .returned (.int .i64 s) ∧ w' = w.setCell a (.int .i64 s) := by
  have hadd := run_call_add (P := Tryz.prog) Tryz.func126 (by kernel_rfl) (by kernel_rfl) (by kernel_rfl) .i64 (by kernel_rfl) (y := y) (s := s) hc hz (by simp [go_sem, IntKind.wrap_i64]; omega)
  clear hs h1 h2
  go_enter Tryz.func78, Tryz.ntmps78
  go_wp2
  go_ret
  exact ⟨rfl, rfl⟩

/-! ### the power -/
theorem out_any {w : World} {b : Nat} {v : Value} {pw : Option Nat} {md g : Nat} (h : PwIn w b v pw md g) : Calls Tryz.prog 142 #[.pointer (some ⟨b, 0, none⟩)] w fun e w' => e = .returned (.bool (decide (pw = some 0))) ∧ w' = w := by
  have c0 := h.c0
  obtain ⟨l, c1, c2, _, _⟩ := h.c1
  clear h
  cases pw with
  | none =>
    go_enter Tryz.func142, Tryz.ntmps142
    go_wp2_with fail
    refine (bload ⟨b, 0, none⟩ false w c0).mono ?_
    rintro e w1 ⟨rfl, rfl⟩
    go_wp2
    go_ret
    exact ⟨rfl, rfl⟩
  | some k =>
    have hk := c2 k rfl
    have e : decide ((some k : Option Nat) = some 0) = decide (l ≤ 0) := by
      by_cases hl : l ≤ 0
      · rw [decide_eq_true hl, decide_eq_true_iff]; congr 1; omega
      · rw [decide_eq_false hl, decide_eq_false_iff_not]; intro h; cases h; omega
    rw [e]
    clear e hk c2
    go_enter Tryz.func142, Tryz.ntmps142
    go_wp2_with fail
    refine (bload ⟨b, 0, none⟩ true w c0).mono ?_
    rintro e w1 ⟨rfl, rfl⟩
    go_wp2_with fail
    refine (load_count ⟨b, 1, none⟩ l w1 c1).mono ?_
    rintro e w2 ⟨rfl, rfl⟩
    go_wp2
    go_ret
    exact ⟨rfl, rfl⟩
/-- is there power for a step? -/
theorem take_any {w : World} {b : Nat} {v : Value} {pw : Option Nat} {md g : Nat} (h : PwIn w b v pw md g) (hg : g < 1000000) (hm : md ≤ g) : Calls Tryz.prog 91 #[.pointer (some ⟨b, 0, none⟩)] w fun e w' => (e = .returned (.bool (decide (pw ≠ some 0)))) ∧ PwIn w' b v (pw.map (· - 1)) (if pw = some 0 then md else md + 1) (g + 1) ∧ Sp [b] w w' := by
  have c0 := h.c0
  obtain ⟨l, c1, c3, c4, c5⟩ := h.c1
  cases pw with
  | none =>
    have H := hid h
    have c2 := h.c2
    rw [if_neg (by simp)]
    have z2 := h.z 2
    clear h
    go_enter Tryz.func91, Tryz.ntmps91
    go_wp2_with fail
    refine (bload ⟨b, 0, none⟩ false w c0).mono ?_
    rintro e w1 ⟨rfl, rfl⟩
    go_wp2_with fail
    refine (iadd ⟨b, 2, none⟩ (md : Int) 1 ((md + 1 : Nat) : Int) w1 c2 z2 (by omega) (by omega) (by omega)).mono ?_
    rintro e w2 ⟨rfl, rfl⟩
    go_wp2
    go_ret
    exact ⟨rfl, H.out.more.step, (Sp.refl [b] w1).set b 2 (by simp) _⟩
  | some k =>
    have hk := c3 k rfl
    have H := hid h
    have z1 := h.z 1
    have hl := hid (h.less l c1)
    have K1 : Hid (Sp [b] w (w.setCell ⟨b, 1, none⟩ (.int .i64 (l - 1)))) := (Sp.refl [b] w).set b 1 (by simp) _
    clear h
    cases k with
    | zero =>
      rw [if_pos rfl]
      go_enter Tryz.func91, Tryz.ntmps91
      go_wp2_with fail
      refine (bload ⟨b, 0, none⟩ true w c0).mono ?_
      rintro e w1 ⟨rfl, rfl⟩
      go_wp2_with fail
      refine (iadd ⟨b, 1, none⟩ l (-1) (l - 1) w1 c1 z1 (by omega) (by omega) (by omega)).mono ?_
      rintro e w2 ⟨rfl, rfl⟩
      have hlt : l - 1 < 0 := by omega
      go_wp2
      go_ret
      exact ⟨rfl, hl.out, K1.out⟩
    | succ k =>
      rw [if_neg (by simp), show decide ((some (k + 1) : Option Nat) ≠ some 0) = true from by simp]
      go_enter Tryz.func91, Tryz.ntmps91
      go_wp2_with fail
      refine (bload ⟨b, 0, none⟩ true w c0).mono ?_
      rintro e w1 ⟨rfl, rfl⟩
      go_wp2_with fail
      refine (iadd ⟨b, 1, none⟩ l (-1) (l - 1) w1 c1 z1 (by omega) (by omega) (by omega)).mono ?_
      rintro e w2 ⟨rfl, rfl⟩
      have hlt : ¬ l - 1 < 0 := by omega
      have h2 := hl.out
      have c2 := h2.c2
      have z2 := h2.z 2
      clear h2
      obtain ⟨W, hW⟩ : ∃ W, W = w1.setCell ⟨b, 1, none⟩ (.int .i64 (l - 1)) := ⟨_, rfl⟩
      rw [← hW] at c2 z2 hl K1 ⊢
      clear hW
      go_wp2_with fail
      refine (iadd ⟨b, 2, none⟩ (md : Int) 1 ((md + 1 : Nat) : Int) W c2 z2 (by omega) (by omega) (by omega)).mono ?_
      rintro e w2 ⟨rfl, rfl⟩
      go_wp2
      go_ret
      exact ⟨rfl, hl.out.step, K1.out.set b 2 (by simp) _⟩
theorem set_any {w : World} {b : Nat} {v : Value} {pw : Option Nat} {md g : Nat} (h : PwIn w b v pw md g) (n : Int) (hn : (Lit.int .i64 n).wf = true) : Calls Tryz.prog 79 #[.pointer (some ⟨b, 0, none⟩), .int .i64 n] w fun e w' => e = .returned (.tuple #[]) ∧ PwIn w' b v (some n.toNat) md g ∧ Sp [b] w w' := by
  have hmax := @imax Tryz.prog
  have hb := bounds_i64 hn
  obtain ⟨l, c1, _⟩ := h.c1
  obtain ⟨x, hx⟩ : ∃ x, x = max n 0 := ⟨_, rfl⟩
  have h2 := h.set x (by omega) (by omega)
  rw [show x.toNat = n.toNat by omega] at h2
  have z1 := h.z 1
  have c0 := h.c0
  have z0 := h.z 0
  have K : Sp [b] w ((w.setCell ⟨b, 1, none⟩ (.int .i64 x)).drew.setCell ⟨b, 0, none⟩ (.int .u32 1)) := by
    have k1 : Sp [b] w (w.setCell ⟨b, 1, none⟩ (.int .i64 x)) := (Sp.refl [b] w).set b 1 (by simp) _
    exact (k1.trans ((Kp.refl _).drew.sp [b])).set b 0 (by simp) _
  have h3 : PwIn ((w.setCell ⟨b, 1, none⟩ (.int .i64 x)).drew.setCell ⟨b, 0, none⟩ (.int .u32 1)) b v (some n.toNat) md g := ⟨h2.hb, h2.c0, h2.c1, h2.c2, h2.z, h2.c3⟩
  have H3 := hid h3
  have HK := hid K
  have c0' : (w.setCell ⟨b, 1, none⟩ (.int .i64 x)).cell? ⟨b, 0, none⟩ = some (.int .u32 (b01 pw.isSome)) := by rw [cell_off _ _ _ _ _ (by omega)]; exact c0
  have z0' : (w.setCell ⟨b, 1, none⟩ (.int .i64 x)).frozen? ⟨b, 0, none⟩ = false := (World.frozen?_setCell _ _ _ _).trans z0
  have HX := hid hx
  clear h h2 h3 K hb hx
  go_enter Tryz.func79, Tryz.ntmps79
  go_wp2_with fail
  rw [← HX.out]
  refine (istore ⟨b, 1, none⟩ _ x w c1 z1).mono ?_
  rintro e w1 ⟨rfl, rfl⟩
  go_wp2_with fail
  refine (bstore ⟨b, 0, none⟩ _ true _ c0' z0').mono ?_
  rintro e w2 ⟨rfl, rfl⟩
  go_wp2
  go_end0
  exact ⟨rfl, H3.out, HK.out⟩
theorem restore_any {w : World} {b : Nat} {v : Value} {pw : Option Nat} {md g : Nat} (h : PwIn w b v pw md g) : Calls Tryz.prog 85 #[.pointer (some ⟨b, 0, none⟩)] w fun e w' => e = .returned (.tuple #[]) ∧ PwIn w' b v none md g ∧ Sp [b] w w' := by
  have c0 := h.c0
  have z0 := h.z 0
  have h2 := h.fails
  have h3 : PwIn (w.drew.setCell ⟨b, 0, none⟩ (.int .u32 0)) b v none md g := ⟨h2.hb, h2.c0, h2.c1, h2.c2, h2.z, h2.c3⟩
  have K : Sp [b] w (w.drew.setCell ⟨b, 0, none⟩ (.int .u32 0)) := ((Kp.refl w).drew.sp [b]).set b 0 (by simp) _
  have H3 := hid h3
  have HK := hid K
  clear h h2 h3 K
  go_enter Tryz.func85, Tryz.ntmps85
  go_wp2_with fail
  refine (bstore ⟨b, 0, none⟩ _ false w c0 z0).mono ?_
  rintro e w2 ⟨rfl, rfl⟩
  go_wp2
  go_end0
  exact ⟨rfl, H3.out, HK.out⟩

end Go.Proofs.YtinpkfdmellleaaGreat

namespace Go.Proofs.YtinpkfdmellleaaGreat
open Go.RowKit Plain
set_option linter.unusedVariables false

/-- a bay at b, its list of members at m, the members at X, their blocks F. -/
structure BX (w0 w : World) (b m : Nat) (X F : List Nat) (B : BS) : Prop where
  p : PwIn w b (.slice (some ⟨m, 0, none⟩) B.ms.length B.ms.length) B.pw B.md B.g
  hm : m < w.heap.size
  ar : ∀ i, i < B.ms.length → w.cell? ⟨m, i, none⟩ = some (.pointer (some ⟨X.getD i 0, 0, none⟩))
  fam : Fam Ow w0 w X B.ms F
  n1 : b ∉ F
  n2 : m ∉ F
  n3 : b ≠ m
  n4 : w0.heap.size ≤ b
  n5 : w0.heap.size ≤ m
  gd : Gd B
/-- a bay of the call's own since w0. -/
def Bw (w0 w : World) (b : Nat) (T : List Nat) (B : BS) : Prop := ∃ m X F, T = b :: m :: F ∧ BX w0 w b m X F B
theorem BX.sp {w0 w w' : World} {b m : Nat} {X F : List Nat} {B : BS} (h : BX w0 w b m X F B) {T : List Nat} (k : Sp T w w') (hT : ∀ t, t ∈ b :: m :: F → t ∉ T) : BX w0 w' b m X F B := by
  have hb : b ∉ T := hT b (by simp)
  have hm : m ∉ T := hT m (by simp)
  exact ⟨h.p.sp k hb, Nat.lt_of_lt_of_le h.hm k.size, fun i hi => k.held (h.ar i hi) hm, h.fam.sp OL.ow k (fun t ht => hT t (by simp [ht])), h.n1, h.n2, h.n3, h.n4, h.n5, h.gd⟩
theorem BX.low {w0 w : World} {b m : Nat} {X F : List Nat} {B : BS} (h : BX w0 w b m X F B) : ∀ t, t ∈ b :: m :: F → t < w.heap.size := fun t ht => by
  simp only [List.mem_cons] at ht
  rcases ht with rfl | rfl | ht
  · exact h.p.hb
  · exact h.hm
  · exact h.fam.low OL.ow t ht
theorem BX.new {w0 w : World} {b m : Nat} {X F : List Nat} {B : BS} (h : BX w0 w b m X F B) : ∀ t, t ∈ b :: m :: F → w0.heap.size ≤ t := fun t ht => by
  simp only [List.mem_cons] at ht
  rcases ht with rfl | rfl | ht
  · exact h.n4
  · exact h.n5
  · exact h.fam.new OL.ow t ht
theorem OL.bw : OL Bw := ⟨fun ⟨m, X, F, e, h⟩ => by rw [e]; exact h.low, fun ⟨m, X, F, e, h⟩ => by rw [e]; exact h.new, fun ⟨m, X, F, e, h⟩ k hT => ⟨m, X, F, e, h.sp k (by rw [← e]; exact hT)⟩⟩
/-- another power. -/
theorem BX.pow {w0 w w' : World} {b m : Nat} {X F : List Nat} {B B' : BS} (h : BX w0 w b m X F B) (k : Sp [b] w w') (hp : PwIn w' b (.slice (some ⟨m, 0, none⟩) B.ms.length B.ms.length) B'.pw B'.md B'.g) (e : B'.ms = B.ms) (hg : Gd B') : BX w0 w' b m X F B' := by
  refine ⟨by rw [e]; exact hp, Nat.lt_of_lt_of_le h.hm k.size, fun i hi => k.held (h.ar i (by rw [← e]; exact hi)) (by simpa using h.n3.symm), by rw [e]; exact h.fam.sp OL.ow k (fun t ht => by simp; rintro rfl; exact h.n1 ht), h.n1, h.n2, h.n3, h.n4, h.n5, hg⟩
/-- one of its members, and what a call on it leaves. -/
theorem BX.at {w0 w : World} {b m : Nat} {X F : List Nat} {B : BS} (h : BX w0 w b m X F B) {i : Int} (hi : fdE B i = 0) : ∃ P, (∀ t, t ∈ P → t ∈ F) ∧ Ow w0 w (X.getD i.toNat 0) P (bm B i) ∧ ∀ w' S', Nx w0 w w' (X.getD i.toNat 0) P S' → Right S' → S'.row.length ≤ B.g → Nz Bw w0 w w' b (b :: m :: F) (put B i S') := by
  obtain ⟨_, _, h1, _⟩ := bm_mem hi
  obtain ⟨P, p1, p2, p3⟩ := h.fam.at OL.ow noM i.toNat h1
  refine ⟨P, p1, p2, fun w' S' hn hr hl => ?_⟩
  obtain ⟨F', q1, q2, q3⟩ := p3 w' S' hn
  have hbF : b ∉ F' := fun ht => by
    rcases q3 b ht with h5 | h5
    · exact h.n1 h5
    · have := h.p.hb; omega
  have hmF : m ∉ F' := fun ht => by
    rcases q3 m ht with h5 | h5
    · exact h.n2 h5
    · have := h.hm; omega
  have hl2 : (put B i S').ms.length = B.ms.length := by simp [put]
  refine ⟨b :: m :: F', ⟨m, X, F', rfl, ⟨by rw [hl2]; exact h.p.sp q2 h.n1, Nat.lt_of_lt_of_le h.hm q2.size, fun j hj => q2.held (h.ar j (by rw [← hl2]; exact hj)) h.n2, q1, hbF, hmF, h.n3, h.n4, h.n5, h.gd.put i S' hr hl⟩⟩, q2.mono (fun t ht => by simp [ht]), fun t ht => ?_⟩
  simp only [List.mem_cons] at ht ⊢
  rcases ht with rfl | rfl | ht
  · exact .inl (.inl rfl)
  · exact .inl (.inr (.inl rfl))
  · rcases q3 t ht with h5 | h5
    · exact .inl (.inr (.inr h5))
    · exact .inr h5
theorem BX.size {w0 w : World} {b m : Nat} {X F : List Nat} {B : BS} (h : BX w0 w b m X F B) : 1 ≤ B.ms.length ∧ B.ms.length ≤ 32 := ⟨h.gd.n1, h.gd.n2⟩
/-- a member, or none. -/
def ptr (B : BS) (X : List Nat) (i : Int) : Value := if fdE B i = 0 then .pointer (some ⟨X.getD i.toNat 0, 0, none⟩) else .pointer none

set_option maxRecDepth 100000 in
theorem find_any {w0 w : World} {b m : Nat} {X F : List Nat} {B : BS} (h : BX w0 w b m X F B) (i : Int) : Calls Tryz.prog 53 #[.pointer (some ⟨b, 0, none⟩), .int .i64 i] w fun e w' => e = .returned (.tuple #[ptr B X i, .int .i64 (fdE B i)]) ∧ w' = w := by
  have c3 := h.p.c3
  obtain ⟨s1, s2⟩ := h.size
  have ar := h.ar i.toNat
  have f1 : fdE B i = if 0 ≤ i ∧ i < B.ms.length then 0 else 11 := rfl
  unfold ptr
  obtain ⟨f, hf⟩ : ∃ f, f = fdE B i := ⟨_, rfl⟩
  rw [← hf] at f1 ⊢
  obtain ⟨n, hn⟩ : ∃ n, n = B.ms.length := ⟨_, rfl⟩
  rw [← hn] at c3 s1 s2 ar f1
  clear hn h hf
  by_cases h0 : 0 ≤ i
  · by_cases h1 : i < n
    · have hc := ar (by omega)
      rw [if_pos ⟨h0, h1⟩] at f1
      subst f1
      rw [if_pos rfl]
      obtain ⟨k, rfl⟩ : ∃ k : Nat, i = (k : Int) := ⟨i.toNat, by omega⟩
      rw [Int.toNat_natCast] at hc ⊢
      have hk : k < n := by omega
      have q1 : ¬ (k : Int) < 0 := by omega
      have q2 : ¬ (n : Int) ≤ (k : Int) := by omega
      clear ar h0 h1
      go_enter Tryz.func53, Tryz.ntmps53
      go_wp2
      go_ret2
      exact ⟨rfl, rfl⟩
    · rw [if_neg (fun h => h1 h.2)] at f1
      subst f1
      rw [if_neg (by decide)]
      have q2 : (n : Int) ≤ i := by omega
      clear ar
      go_enter Tryz.func53, Tryz.ntmps53
      go_wp2
      go_ret2
      exact ⟨rfl, rfl⟩
  · rw [if_neg (fun h => h0 h.1)] at f1
    subst f1
    rw [if_neg (by decide)]
    have q1 : i < 0 := by omega
    clear ar
    go_enter Tryz.func53, Tryz.ntmps53
    go_wp2
    go_ret2
    exact ⟨rfl, rfl⟩
theorem member_any {w0 w : World} {b m : Nat} {X F : List Nat} {B : BS} (h : BX w0 w b m X F B) (i : Int) : Calls Tryz.prog 16 #[.pointer (some ⟨b, 0, none⟩), .int .i64 i] w fun e w' => e = .returned (ptr B X i) ∧ w' = w := by
  have hf := find_any h i
  clear h
  go_enter Tryz.func16, Tryz.ntmps16
  go_wp2_with fail
  refine hf.mono ?_
  rintro e w1 ⟨rfl, rfl⟩
  go_wp2
  go_ret
  exact ⟨rfl, rfl⟩
theorem bsize_any {w0 w : World} {b m : Nat} {X F : List Nat} {B : BS} (h : BX w0 w b m X F B) : Calls Tryz.prog 58 #[.pointer (some ⟨b, 0, none⟩)] w fun e w' => e = .returned (.int .i64 (B.ms.length : Int)) ∧ w' = w := by
  have c3 := h.p.c3
  clear h
  go_enter Tryz.func58, Tryz.ntmps58
  go_wp2
  go_ret
  exact ⟨rfl, rfl⟩
theorem steps_any {w0 w : World} {b m : Nat} {X F : List Nat} {B : BS} (h : BX w0 w b m X F B) : Calls Tryz.prog 25 #[.pointer (some ⟨b, 0, none⟩)] w fun e w' => e = .returned (.int .i64 (B.md : Int)) ∧ w' = w := by
  have c2 := h.p.c2
  clear h
  go_enter Tryz.func25, Tryz.ntmps25
  go_wp2_with fail
  refine (load_count ⟨b, 2, none⟩ _ w c2).mono ?_
  rintro e w1 ⟨rfl, rfl⟩
  go_wp2
  go_ret
  exact ⟨rfl, rfl⟩

end Go.Proofs.YtinpkfdmellleaaGreat

namespace Go.Proofs.YtinpkfdmellleaaGreat
open Go.RowKit Plain
set_option linter.unusedVariables false

theorem fd_no {B : BS} {i : Int} (h : fdE B i ≠ 0) : fdE B i = 11 ∧ stE B i = 11 ∧ stS B i = ⟨B.pw, B.md, B.g + 1, B.ms⟩ := by
  have h1 : fdE B i = 11 := by
    unfold fdE at h ⊢
    split
    · rename_i h2; rw [if_pos h2] at h; exact absurd rfl h
    · rfl
  have h2 : stE B i = 11 := by unfold stE; rw [if_neg h]
  exact ⟨h1, h2, by unfold stS; rw [if_neg (by rw [h2]; decide)]⟩
theorem st_no {B : BS} {i : Int} (h : fdE B i = 0) (h1 : B.pw = some 0) : stE B i = 21 ∧ stS B i = ⟨B.pw, B.md, B.g + 1, B.ms⟩ := by
  have h2 : stE B i = 21 := by unfold stE; rw [if_pos h, if_pos h1]
  exact ⟨h2, by unfold stS; rw [if_neg (by rw [h2]; decide)]⟩
theorem st_yes {B : BS} {i : Int} (h : fdE B i = 0) (h1 : B.pw ≠ some 0) : stE B i = 0 ∧ stS B i = ⟨B.pw.map (· - 1), B.md + 1, B.g + 1, B.ms⟩ := by
  have h2 : stE B i = 0 := by unfold stE; rw [if_pos h, if_neg h1]
  exact ⟨h2, by unfold stS; rw [if_pos h2]⟩
def sptr (B : BS) (X : List Nat) (i : Int) : Value := if stE B i = 0 then .pointer (some ⟨X.getD i.toNat 0, 0, none⟩) else .pointer none

set_option maxRecDepth 100000 in
theorem step_any {w0 w : World} {b m : Nat} {X F : List Nat} {B : BS} (h : BX w0 w b m X F B) (i : Int) (hg : B.g < 1000000) : Calls Tryz.prog 48 #[.pointer (some ⟨b, 0, none⟩), .int .i64 i] w fun e w' => e = .returned (.tuple #[sptr B X i, .int .i64 (stE B i)]) ∧ BX w0 w' b m X F (stS B i) ∧ Sp [b] w w' := by
  have hfd := find_any h i
  have gs := h.gd.st i
  unfold sptr
  by_cases hf : fdE B i = 0
  · unfold ptr at hfd
    rw [if_pos hf, hf] at hfd
    have htk := take_any h.p hg h.gd.md
    by_cases hp : B.pw = some 0
    · obtain ⟨e1, e2⟩ := st_no hf hp
      rw [e2] at gs
      rw [e1, e2, if_neg (by decide)]
      rw [hp] at htk
      simp only [if_true, ne_eq, not_true_eq_false, decide_false] at htk
      have H := hid h
      have HG := hid gs
      have HP := hid hp
      clear h gs hp hf e1 e2
      go_enter Tryz.func48, Tryz.ntmps48
      go_wp2_with fail
      refine hfd.mono ?_
      rintro e w1 ⟨rfl, rfl⟩
      go_wp2_with fail
      refine htk.mono ?_
      rintro e w2 ⟨rfl, p2, k2⟩
      have h2 : BX w0 w2 b m X F ⟨B.pw, B.md, B.g + 1, B.ms⟩ := H.out.pow k2 (by rw [HP.out]; exact p2) rfl HG.out
      have H2 := hid h2
      have K2 := hid k2
      clear h2 p2 k2
      go_wp2
      go_ret2
      exact ⟨rfl, H2.out, K2.out⟩
    · obtain ⟨e1, e2⟩ := st_yes hf hp
      rw [e2] at gs
      rw [e1, e2, if_pos rfl]
      rw [if_neg hp, decide_eq_true hp] at htk
      have H := hid h
      have HG := hid gs
      clear h gs hp hf e1 e2
      go_enter Tryz.func48, Tryz.ntmps48
      go_wp2_with fail
      refine hfd.mono ?_
      rintro e w1 ⟨rfl, rfl⟩
      go_wp2_with fail
      refine htk.mono ?_
      rintro e w2 ⟨rfl, p2, k2⟩
      have h2 : BX w0 w2 b m X F ⟨B.pw.map (· - 1), B.md + 1, B.g + 1, B.ms⟩ := H.out.pow k2 p2 rfl HG.out
      have H2 := hid h2
      have K2 := hid k2
      clear h2 p2 k2
      go_wp2
      go_ret2
      exact ⟨rfl, H2.out, K2.out⟩
  · obtain ⟨e0, e1, e2⟩ := fd_no hf
    unfold ptr at hfd
    rw [if_neg hf, e0] at hfd
    rw [e2] at gs
    rw [e1, e2, if_neg (by decide)]
    have h2 : BX w0 w b m X F ⟨B.pw, B.md, B.g + 1, B.ms⟩ := h.pow (Sp.refl _ _) h.p.more rfl gs
    have H2 := hid h2
    clear h gs hf e0 e1 e2 h2
    go_enter Tryz.func48, Tryz.ntmps48
    go_wp2_with fail
    refine hfd.mono ?_
    rintro e w1 ⟨rfl, rfl⟩
    go_wp2
    go_ret2
    exact ⟨rfl, H2.out, Sp.refl _ _⟩

/-! ### on a bay of the call's own -/
theorem bm_st (B : BS) (i : Int) : bm (stS B i) i = bm B i := by unfold bm; rw [(stS_ms B i).1]
theorem fd_st (B : BS) (i : Int) : fdE (stS B i) i = fdE B i := by unfold fdE; rw [(stS_ms B i).1]
theorem Sp.bb {w w' : World} {b : Nat} {T : List Nat} (h : Sp [b] w w') : Sp (b :: T) w w' := h.mono (fun t ht => by simp at ht; simp [ht])

theorem bw_write {w0 w : World} {b : Nat} {T : List Nat} {B : BS} (h : Bw w0 w b T B) (K : Kp w0 w) (i k : Int) (s : ByteArray) (hg : B.g < 1000000) : Calls Tryz.prog 14 #[.pointer (some ⟨b, 0, none⟩), .int .i64 i, .int .i64 k, .string s] w fun e w' => e = .returned (.int .i64 (opE B i (fun S => wrE S k s))) ∧ Nz Bw w0 w w' b T (opS B i (fun S => wr S k s)) := by
  obtain ⟨m, X, F, rfl, h1⟩ := h
  have hst := step_any h1 i hg
  unfold opE opS
  by_cases he : stE B i = 0
  · rw [if_pos he, if_pos he]
    unfold sptr at hst
    rw [he, if_pos rfl] at hst
    have hf := (stE_ok he).1
    have HL : Hid ((bm B i).row.length ≤ B.g) := h1.gd.rowAt hf
    have HN : ∀ t, t ∈ b :: m :: F → w0.heap.size ≤ t := h1.new
    have HR : Hid (Right (bm B i)) := h1.gd.rightAt hf
    have HF := hid hf
    clear h1 he hf
    go_enter Tryz.func14, Tryz.ntmps14
    go_wp2_with fail
    refine hst.mono ?_
    rintro e w1 ⟨rfl, h2, k2⟩
    obtain ⟨P, p1, p2, p3⟩ := h2.at (i := i) ((fd_st B i).trans HF.out)
    rw [bm_st] at p2
    have K1 : Kp w0 w1 := Sp.kp K k2.bb HN
    have hw := ow_write p2 K1 k s (by have := HL.out; omega)
    have HP3 := hid p3
    have HK2 := hid k2
    clear p1 p2 p3 h2 k2 hst HN
    go_wp2_with fail
    refine hw.mono ?_
    rintro e w3 ⟨rfl, n3⟩
    obtain ⟨T', q1, q2, q3⟩ := HP3.out w3 _ n3 (HR.out.wr k s) (by have := wr_rows k s (bm B i); have := HL.out; rw [(stS_ms B i).2]; omega)
    have Q1 := hid q1
    have Q2 : Hid (Sp (b :: m :: F) w w3) := HK2.out.bb.trans q2
    have Q3 : Hid (Nw w (b :: m :: F) T') := fun t ht => (q3 t ht).imp id (fun h => Nat.le_trans HK2.out.size h)
    clear q1 q2 q3 n3
    go_wp2
    go_ret
    exact ⟨rfl, T', Q1.out, Q2.out, Q3.out⟩
  · rw [if_neg he, if_neg he]
    unfold sptr at hst
    rw [if_neg he] at hst
    have he2 : (stE B i == 0) = false := beq_eq_false_iff_ne.2 he
    clear h1
    go_enter Tryz.func14, Tryz.ntmps14
    go_wp2_with fail
    refine hst.mono ?_
    rintro e w1 ⟨rfl, h2, k2⟩
    have H2 := hid h2
    have K2 := hid k2
    clear h2 k2
    go_wp2
    go_ret
    exact ⟨rfl, b :: m :: F, ⟨m, X, F, rfl, H2.out⟩, K2.out.bb, Nw.refl _ _⟩
theorem bw_flush {w0 w : World} {b : Nat} {T : List Nat} {B : BS} (h : Bw w0 w b T B) (K : Kp w0 w) (i : Int) (hg : B.g < 1000000) : Calls Tryz.prog 111 #[.pointer (some ⟨b, 0, none⟩), .int .i64 i] w fun e w' => e = .returned (.int .i64 (opE B i flE)) ∧ Nz Bw w0 w w' b T (opS B i fl) := by
  obtain ⟨m, X, F, rfl, h1⟩ := h
  have hst := step_any h1 i hg
  unfold opE opS
  by_cases he : stE B i = 0
  · rw [if_pos he, if_pos he]
    unfold sptr at hst
    rw [he, if_pos rfl] at hst
    have hf := (stE_ok he).1
    have HL : Hid ((bm B i).row.length ≤ B.g) := h1.gd.rowAt hf
    have HN : ∀ t, t ∈ b :: m :: F → w0.heap.size ≤ t := h1.new
    have HR : Hid (Right (bm B i)) := h1.gd.rightAt hf
    have HF := hid hf
    clear h1 he hf
    go_enter Tryz.func111, Tryz.ntmps111
    go_wp2_with fail
    refine hst.mono ?_
    rintro e w1 ⟨rfl, h2, k2⟩
    obtain ⟨P, p1, p2, p3⟩ := h2.at (i := i) ((fd_st B i).trans HF.out)
    rw [bm_st] at p2
    have K1 : Kp w0 w1 := Sp.kp K k2.bb HN
    have hw := ow_flush p2 K1
    have HP3 := hid p3
    have HK2 := hid k2
    clear p1 p2 p3 h2 k2 hst HN
    go_wp2_with fail
    refine hw.mono ?_
    rintro e w3 ⟨rfl, n3⟩
    obtain ⟨T', q1, q2, q3⟩ := HP3.out w3 _ n3 HR.out.fl (by have := fl_rows (bm B i); have := HL.out; rw [(stS_ms B i).2]; omega)
    have Q1 := hid q1
    have Q2 : Hid (Sp (b :: m :: F) w w3) := HK2.out.bb.trans q2
    have Q3 : Hid (Nw w (b :: m :: F) T') := fun t ht => (q3 t ht).imp id (fun h => Nat.le_trans HK2.out.size h)
    clear q1 q2 q3 n3
    go_wp2
    go_ret
    exact ⟨rfl, T', Q1.out, Q2.out, Q3.out⟩
  · rw [if_neg he, if_neg he]
    unfold sptr at hst
    rw [if_neg he] at hst
    have he2 : (stE B i == 0) = false := beq_eq_false_iff_ne.2 he
    clear h1
    go_enter Tryz.func111, Tryz.ntmps111
    go_wp2_with fail
    refine hst.mono ?_
    rintro e w1 ⟨rfl, h2, k2⟩
    have H2 := hid h2
    have K2 := hid k2
    clear h2 k2
    go_wp2
    go_ret
    exact ⟨rfl, b :: m :: F, ⟨m, X, F, rfl, H2.out⟩, K2.out.bb, Nw.refl _ _⟩
theorem bw_read {w0 w : World} {b : Nat} {T : List Nat} {B : BS} (h : Bw w0 w b T B) (K : Kp w0 w) (i k : Int) : Calls Tryz.prog 117 #[.pointer (some ⟨b, 0, none⟩), .int .i64 i, .int .i64 k] w fun e w' => e = .returned (.tuple #[.string (rdT B i k), .int .i64 (rdE B i k)]) ∧ Nz Bw w0 w w' b T (rdB B i k) := by
  obtain ⟨m, X, F, rfl, h1⟩ := h
  have hfd := find_any h1 i
  have hout := out_any h1.p
  have HB : Hid (Bw w0 w b (b :: m :: F) B) := ⟨m, X, F, rfl, h1⟩
  unfold rdT rdE rdB
  by_cases hf : fdE B i = 0
  · unfold ptr at hfd
    rw [if_pos hf, hf] at hfd
    by_cases hp : B.pw = some 0
    · obtain ⟨e1, _⟩ := st_no hf hp
      rw [e1, if_neg (by decide), if_neg (by decide), if_neg (by decide)]
      rw [decide_eq_true hp] at hout
      clear h1 hp hf e1
      go_enter Tryz.func117, Tryz.ntmps117
      go_wp2_with fail
      refine hfd.mono ?_
      rintro e w1 ⟨rfl, rfl⟩
      go_wp2_with fail
      refine hout.mono ?_
      rintro e w2 ⟨rfl, rfl⟩
      go_wp2
      go_ret2
      exact ⟨rfl, Nz.refl HB.out⟩
    · obtain ⟨e1, _⟩ := st_yes hf hp
      rw [e1, if_pos rfl, if_pos rfl, if_pos rfl]
      rw [decide_eq_false hp] at hout
      obtain ⟨P, p1, p2, p3⟩ := h1.at hf
      have hr := ow_read p2 K k
      have HL : Hid ((bm B i).row.length ≤ B.g) := h1.gd.rowAt hf
      have HR : Hid (Right (bm B i)) := h1.gd.rightAt hf
      have HP3 := hid p3
      clear h1 hp hf e1 p1 p2 p3
      go_enter Tryz.func117, Tryz.ntmps117
      go_wp2_with fail
      refine hfd.mono ?_
      rintro e w1 ⟨rfl, rfl⟩
      go_wp2_with fail
      refine hout.mono ?_
      rintro e w2 ⟨rfl, rfl⟩
      go_wp2_with fail
      refine hr.mono ?_
      rintro e w3 ⟨rfl, n3⟩
      have q := hid (HP3.out w3 _ n3 (HR.out.rd k) (by have := HL.out; unfold rd; split <;> exact this))
      clear n3
      go_wp2
      go_ret2
      exact ⟨rfl, q.out⟩
  · obtain ⟨e0, e1, e2⟩ := fd_no hf
    unfold ptr at hfd
    rw [if_neg hf, e0] at hfd
    rw [e1, if_neg (by decide), if_neg (by decide), if_neg (by decide)]
    clear h1 hf e0 e1 e2 hout
    go_enter Tryz.func117, Tryz.ntmps117
    go_wp2_with fail
    refine hfd.mono ?_
    rintro e w1 ⟨rfl, rfl⟩
    go_wp2
    go_ret2
    exact ⟨rfl, Nz.refl HB.out⟩
theorem bw_cut {w0 w : World} {b : Nat} {T : List Nat} {B : BS} (h : Bw w0 w b T B) (n : Int) (hn : (Lit.int .i64 n).wf = true) : Calls Tryz.prog 29 #[.pointer (some ⟨b, 0, none⟩), .int .i64 n] w fun e w' => e = .returned (.tuple #[]) ∧ Nz Bw w0 w w' b T (ctB B n) := by
  obtain ⟨m, X, F, rfl, h1⟩ := h
  have hs := set_any h1.p n hn
  have H1 := hid h1
  clear h1 hn
  go_enter Tryz.func29, Tryz.ntmps29
  go_wp2_with fail
  refine hs.mono ?_
  rintro e w1 ⟨rfl, p1, k1⟩
  have q : Hid (Nz Bw w0 w w1 b (b :: m :: F) (ctB B n)) := ⟨_, ⟨m, X, F, rfl, H1.out.pow k1 p1 rfl (H1.out.gd.cut n)⟩, k1.bb, Nw.refl _ _⟩
  clear p1 k1
  go_wp2
  go_end0
  exact ⟨rfl, q.out⟩
theorem bw_steps {w0 w : World} {b : Nat} {T : List Nat} {B : BS} (h : Bw w0 w b T B) : Calls Tryz.prog 25 #[.pointer (some ⟨b, 0, none⟩)] w fun e w' => e = .returned (.int .i64 (B.md : Int)) ∧ w' = w := by
  obtain ⟨m, X, F, rfl, h1⟩ := h
  exact steps_any h1
theorem bw_size {w0 w : World} {b : Nat} {T : List Nat} {B : BS} (h : Bw w0 w b T B) : Calls Tryz.prog 58 #[.pointer (some ⟨b, 0, none⟩)] w fun e w' => e = .returned (.int .i64 (B.ms.length : Int)) ∧ w' = w := by
  obtain ⟨m, X, F, rfl, h1⟩ := h
  exact bsize_any h1
theorem Bw.gd {w0 w : World} {b : Nat} {T : List Nat} {B : BS} (h : Bw w0 w b T B) : Gd B := by
  obtain ⟨m, X, F, rfl, h1⟩ := h
  exact h1.gd

end Go.Proofs.YtinpkfdmellleaaGreat

namespace Go.Proofs.YtinpkfdmellleaaGreat
open Go.RowKit Plain
set_option linter.unusedVariables false

theorem info_pm : (Tryz.prog.info? 41).map (fun i => (i.zero, i.size, i.bytes)) = some (some (.pointer none), 1, 8) := by kernel_rfl
theorem ow_new2 (k : Int) (w0 w : World) (K : Kp w0 w) : Calls Tryz.prog 46 #[.int .i64 k] w fun e w' => ∃ b T, e = .returned (.pointer (some ⟨b, 0, none⟩)) ∧ Ow w0 w' b T (nw (nwN k)) ∧ Kp w w' ∧ (∀ t, t ∈ T → w.heap.size ≤ t) := ow_new k w0 w K
/-- a bay whose first k members are made. -/
structure NwL (w0 w wr : World) (b m n k : Nat) (X F : List Nat) (S : MS) : Prop where
  p : PwIn wr b (.slice (some ⟨m, 0, none⟩) n n) none 0 0
  hm : m < wr.heap.size
  ar : ∀ i, i < k → wr.cell? ⟨m, i, none⟩ = some (.pointer (some ⟨X.getD i 0, 0, none⟩))
  th : wr.there m 0 n
  fam : Fam Ow w0 wr X (List.replicate k S) F
  n1 : b ∉ F
  n2 : m ∉ F
  n3 : b ≠ m
  hbw : w.heap.size ≤ b
  hmw : w.heap.size ≤ m
  fn : ∀ t, t ∈ F → w.heap.size ≤ t
  kp : Kp w wr
theorem NwL.at {w0 w wr : World} {b m n k : Nat} {X F : List Nat} {S : MS} (h : NwL w0 w wr b m n k X F S) (hk : k < n) : ∃ v, wr.cell? ⟨m, k, none⟩ = some v ∧ wr.frozen? ⟨m, k, none⟩ = false := by
  obtain ⟨h1, h2⟩ := h.th k hk
  rw [Nat.zero_add] at h1 h2
  obtain ⟨v, hv⟩ := Option.isSome_iff_exists.1 h1
  exact ⟨v, hv, h2⟩
theorem NwL.len {w0 w wr : World} {b m n k : Nat} {X F : List Nat} {S : MS} (h : NwL w0 w wr b m n k X F S) : X.length = k := by
  have := h.fam.len
  simpa using this
theorem NwL.more {w0 w wr : World} {b m n k : Nat} {X F : List Nat} {S : MS} (h : NwL w0 w wr b m n k X F S) {w1 : World} {x : Nat} {P : List Nat} (ho : Ow w0 w1 x P S) (k1 : Kp wr w1) (hP : ∀ t, t ∈ P → wr.heap.size ≤ t) (hk : k < n) : NwL w0 w (w1.setCell ⟨m, k, none⟩ (.pointer (some ⟨x, 0, none⟩))) b m n (k + 1) (X ++ [x]) (F ++ P) S := by
  have q : Sp [m] w1 (w1.setCell ⟨m, k, none⟩ (.pointer (some ⟨x, 0, none⟩))) := (Sp.refl [m] w1).set m k (by simp) _
  have e0 := k1.sp []
  have hl := h.len
  have hmP : m ∉ P := fun ht => by have := hP m ht; have := h.hm; omega
  have hbP : b ∉ P := fun ht => by have := hP b ht; have := h.p.hb; omega
  have hm1 : m < w1.heap.size := Nat.lt_of_lt_of_le h.hm k1.size
  have th1 : w1.there m 0 n := e0.there h.th (by simp)
  obtain ⟨u, hu⟩ := Option.isSome_iff_exists.1 (th1 k hk).1
  rw [Nat.zero_add] at hu
  have dj : Dj F P := fun t ht ht2 => by have := h.fam.low OL.ow t ht; have := hP t ht2; omega
  have fam1 : Fam Ow w0 w1 X (List.replicate k S) F := h.fam.kp OL.ow k1
  have fam2 := Fam.snoc OL.ow ho fam1 dj
  rw [show List.replicate k S ++ [S] = List.replicate (k + 1) S from by rw [List.replicate_succ']] at fam2
  refine ⟨(h.p.sp e0 (by simp)).sp q (by simpa using h.n3), Nat.lt_of_lt_of_le hm1 q.size, fun i hi => ?_, fun j hj => ?_, fam2.sp OL.ow q (fun t ht => ?_), ?_, ?_, h.n3, h.hbw, h.hmw, fun t ht => ?_, Kp.set (h.kp.trans k1) m k h.hmw _⟩
  · by_cases e : i = k
    · subst e
      rw [World.cell?_setCell_same _ _ _ hu]
      rw [List.getD_eq_getElem?_getD, List.getElem?_append_right (by omega), hl, Nat.sub_self]
      rfl
    · rw [cell_off _ _ _ _ _ e, e0.held (h.ar i (by omega)) (by simp)]
      rw [List.getD_eq_getElem?_getD, List.getD_eq_getElem?_getD, List.getElem?_append_left (by omega)]
  · obtain ⟨h1, h2⟩ := th1 j hj
    refine ⟨?_, (World.frozen?_setCell _ _ _ _).trans h2⟩
    by_cases e : 0 + j = k
    · rw [e, World.cell?_setCell_same _ _ _ hu]; rfl
    · rw [cell_off _ _ _ _ _ e]; exact h1
  · simp only [List.mem_singleton]
    rintro rfl
    rcases List.mem_append.1 ht with h5 | h5
    · exact h.n2 h5
    · exact hmP h5
  · intro ht
    rcases List.mem_append.1 ht with h5 | h5
    · exact h.n1 h5
    · exact hbP h5
  · intro ht
    rcases List.mem_append.1 ht with h5 | h5
    · exact h.n2 h5
    · exact hmP h5
  · rcases List.mem_append.1 ht with h5 | h5
    · exact h.fn t h5
    · exact Nat.le_trans h.kp.size (hP t h5)
theorem NwL.start {w0 w : World} {n : Nat} {S : MS} (hn : 1 ≤ n) : NwL w0 w ((w.alloc (.cells (madeCells #[.pointer none] n) 41)).alloc (.cells #[.int .u32 0, .int .i64 0, .int .i64 0, .slice (some ⟨w.heap.size, 0, none⟩) n n] 109)) (w.heap.size + 1) w.heap.size n 0 [] [] S := by
  obtain ⟨W, hW⟩ : ∃ W, W = w.alloc (.cells (madeCells #[.pointer none] n) 41) := ⟨_, rfl⟩
  have hs : W.heap.size = w.heap.size + 1 := by rw [hW]; simp
  have th : W.there w.heap.size 0 n := by rw [hW]; exact there_new w _ _ _ (by simp [madeCells])
  have kW : Kp w W := by rw [hW]; exact (Kp.refl w).alloc _
  rw [← hW, ← hs]
  have k2 : Kp W (W.alloc (.cells #[.int .u32 0, .int .i64 0, .int .i64 0, .slice (some ⟨w.heap.size, 0, none⟩) n n] 109)) := (Kp.refl W).alloc _
  have hc : ∀ i, (W.alloc (.cells #[.int .u32 0, .int .i64 0, .int .i64 0, .slice (some ⟨w.heap.size, 0, none⟩) n n] 109)).cell? ⟨W.heap.size, i, none⟩ = (#[.int .u32 0, .int .i64 0, .int .i64 0, .slice (some ⟨w.heap.size, 0, none⟩) n n] : Array Value)[i]? := fun i => World.cell?_alloc_at _ _ _ i rfl
  refine ⟨⟨by simp, hc 0, ⟨0, hc 1, fun k hk => (by cases hk), by omega, by omega⟩, hc 2, fun o => World.frozen?_alloc_at _ _ _ o rfl, hc 3⟩, by simp; omega, fun i hi => (by omega), (k2.sp []).there th (by simp), rfl, by simp, by simp, by omega, by omega, by omega, fun t ht => (by cases ht), kW.trans k2⟩

set_option maxRecDepth 100000 in
set_option maxHeartbeats 1000000 in
theorem bw_new (a s : Int) (w0 w : World) (K : Kp w0 w) : Calls Tryz.prog 12 #[.int .i64 a, .int .i64 s] w fun e w' => ∃ b T, e = .returned (.pointer (some ⟨b, 0, none⟩)) ∧ Bw w0 w' b T (nwB a s) ∧ Kp w w' ∧ (∀ t, t ∈ T → w.heap.size ≤ t) := by
  have hmin := @imin Tryz.prog
  have hmax := @imax Tryz.prog
  have hgd := Gd.new a s
  obtain ⟨n, hn⟩ : ∃ n, n = (min (max a 1) 32).toNat := ⟨_, rfl⟩
  have e1 : min (max a 1) 32 = (n : Int) := by omega
  have e2 : 1 ≤ n := by omega
  have e3 : n ≤ 32 := by omega
  obtain ⟨S, hS⟩ : ∃ S, S = nw (nwN s) := ⟨_, rfl⟩
  have eB : nwB a s = ⟨none, 0, 0, List.replicate n S⟩ := by unfold nwB; rw [hn, hS]
  rw [eB] at hgd ⊢
  have hmk := fun W => run_make_row' (P := Tryz.prog) 97 41 (.pointer none) 8 Tryz.underlying97 info_pm rfl .i64 .i64 n (by omega) (by omega) W
  have H0 : Hid (NwL w0 w _ (w.heap.size + 1) w.heap.size n 0 [] [] S) := NwL.start (w0 := w0) (w := w) e2
  have HG := hid hgd
  have hnew : ∀ W, Kp w0 W → Calls Tryz.prog 46 #[.int .i64 s] W fun e w' => ∃ b T, e = .returned (.pointer (some ⟨b, 0, none⟩)) ∧ Ow w0 w' b T S ∧ Kp W w' ∧ (∀ t, t ∈ T → W.heap.size ≤ t) := fun W hW => by rw [hS]; exact ow_new s w0 W hW
  clear hgd eB hS hn
  obtain ⟨b, hb⟩ : ∃ b, b = w.heap.size + 1 := ⟨_, rfl⟩
  obtain ⟨m, hm⟩ : ∃ m, m = w.heap.size := ⟨_, rfl⟩
  obtain ⟨W, hW⟩ : ∃ W, W = (w.alloc (.cells (madeCells #[.pointer none] n) 41)).alloc (.cells #[.int .u32 0, .int .i64 0, .int .i64 0, .slice (some ⟨w.heap.size, 0, none⟩) n n] 109) := ⟨_, rfl⟩
  rw [← hW, ← hb, ← hm] at H0
  have HW := hid hW
  have HB := hid hb
  have HM := hid hm
  have c3 := H0.out.p.c3
  clear hW hb hm
  go_enter Tryz.func12, Tryz.ntmps12
  go_wp2_with fail
  rw [← HW.out, ← HB.out, ← HM.out]
  clear hmk HW HB HM
  go_wp2_with fail
  go_loopw [18] (fun i wr => ∃ k X F, k ≤ n ∧ i = .int .i64 (k : Nat) ∧ Hid (NwL w0 w wr b m n k X F S)) (fun i _ => n - (intOf i).toNat)
  case atStart => exact ⟨0, [], [], by omega, by go_num, H0⟩
  case round =>
    clear H0 c3
    obtain ⟨k, X, F, hk, rfl, HL⟩ := hrel
    by_cases hlt : k < n
    · have c3 := HL.out.p.c3
      have hN := hnew wr.drew (K.trans (HL.out.kp.drew))
      obtain ⟨u, hu, hz⟩ := HL.out.at hlt
      have hm := HL.out.hm
      have cM : ∀ V, Kp wr.drew V → V.cell? ⟨m, k, none⟩ = some u := fun V kV => kV.held hu
      have zM : ∀ V, Kp wr.drew V → V.frozen? ⟨m, k, none⟩ = false := fun V kV => ((kV.sp []).frozen hm (by simp) k).trans hz
      have hk2 : ¬ n ≤ k := by omega
      have n3 := HL.out.n3
      have hB1 : ∀ V, Kp wr.drew V → V.cell? ⟨b, 3, none⟩ = some (.slice (some ⟨m, 0, none⟩) n n) := fun V kV => kV.held c3
      have hB2 : ∀ V v, Kp wr.drew V → (V.setCell ⟨m, k, none⟩ v).cell? ⟨b, 3, none⟩ = some (.slice (some ⟨m, 0, none⟩) n n) := fun V v kV => (World.cell?_setCell_other _ _ _ _ (by intro e; cases e; exact n3 rfl)).trans (kV.held c3)
      have kr : Kp wr.drew wr.drew := Kp.refl _
      clear hnew hu hz hm
      go_wp2_with fail
      go_region_held3 (fun V => V.cell? ⟨b, 3, none⟩ = some (.slice (some ⟨m, 0, none⟩) n n)) (first | exact hB1 _ (by assumption) | exact hB2 _ _ (by assumption) | go_keep) (first | (go_at_call 46; refine hN.mono ?_; rintro e wN ⟨x, P, rfl, hO, kO, hP⟩; have cN := cM _ kO; have zN := zM _ kO))
      all_goals (
        have HN : Hid (NwL w0 w (wN.setCell ⟨m, k, none⟩ (.pointer (some ⟨x, 0, none⟩))) b m n (k + 1) (X ++ [x]) (F ++ P) S) := HL.out.more hO ((Kp.refl wr).drew.trans kO) hP hlt
        clear HL cM zM cN zN c3 hO kO hP hB1 hB2 kr n3
        go_wp2
        go_roundw)
      case rel => exact ⟨k + 1, _, _, by omega, by go_num, HN⟩
      case measure => simp [intOf]; omega
    · obtain rfl : k = n := by omega
      have hL := HL.out
      have hq : Hid (∃ b' T, (.returned (.pointer (some ⟨b, 0, none⟩)) : Ending) = .returned (.pointer (some ⟨b', 0, none⟩)) ∧ Bw w0 wr b' T ⟨none, 0, 0, List.replicate k S⟩ ∧ Kp w wr ∧ (∀ t, t ∈ T → w.heap.size ≤ t)) := by
        have hl : (List.replicate k S).length = k := by simp
        refine ⟨b, b :: m :: F, rfl, ⟨m, X, F, rfl, ⟨by rw [hl]; exact hL.p, hL.hm, fun i hi => hL.ar i (by rw [← hl]; exact hi), hL.fam, hL.n1, hL.n2, hL.n3, Nat.le_trans K.size hL.hbw, Nat.le_trans K.size hL.hmw, HG.out⟩⟩, hL.kp, fun t ht => ?_⟩
        simp only [List.mem_cons] at ht
        rcases ht with rfl | rfl | ht
        · exact hL.hbw
        · exact hL.hmw
        · exact hL.fn t ht
      clear hL HL
      go_wp2
      go_ret
      exact hq.out

end Go.Proofs.YtinpkfdmellleaaGreat

namespace Go.Proofs.YtinpkfdmellleaaGreat
open Go.RowKit Plain
set_option linter.unusedVariables false

def OR (w : World) (base : Nat) (e : TypeId) (v : Value) (xs : List Value) : Prop := w.ownsRow base e 1 v xs.length xs
theorem Sp.grown {a b : World} {row : Option Nat} (g : a.grownBy b row) : Sp row.toList a b := ⟨g.os, g.tape, g.output, g.size, fun k hk hn => g.block k hk (fun e => hn (by rw [← e]; simp))⟩
theorem OR.sp {w w' : World} {base : Nat} {e : TypeId} {v : Value} {xs : List Value} (h : OR w base e v xs) {T : List Nat} (k : Sp T w w') (hT : ∀ t, t ∈ T → t < base) : OR w' base e v xs := k.own h (fun g hg ht => by have := (World.ownsRow.lt h g hg).1; have := hT g ht; omega)
theorem OR.kp {w w' : World} {base : Nat} {e : TypeId} {v : Value} {xs : List Value} (h : OR w base e v xs) (k : Kp w w') : OR w' base e v xs := (k.sp []).own h (fun _ _ => by simp)
theorem OR.shape {w : World} {base : Nat} {e : TypeId} {v : Value} {xs : List Value} (h : OR w base e v xs) : ∃ a g cap, v = .slice a xs.length cap ∧ xs.length ≤ cap ∧ cap ≤ 9223372036854775807 ∧ (0 < xs.length → a = some ⟨g, 0, none⟩ ∧ base ≤ g ∧ g < w.heap.size) ∧ ∀ j, j < xs.length → w.cell? ⟨g, j, none⟩ = xs[j]? := by
  rcases h.2 with ⟨rfl, h0⟩ | ⟨g, cap, cur, rfl, hb, hg, hn, hm, _⟩
  · exact ⟨none, 0, 0, by rw [h0], by omega, by omega, fun h => absurd h (by omega), fun j hj => absurd hj (by omega)⟩
  · unfold maxLen at hm
    exact ⟨_, g, cap, rfl, hn, by omega, fun _ => ⟨rfl, hb, (Array.getElem?_eq_some_iff.1 hg).1⟩, fun j hj => World.ownsRow.cellAt h j (by omega)⟩
theorem wpList_append_or {w : World} {ops : Array Oper} {rest : List Oper} {o : Oper} {a : Act} {Q : Exit → Act → World → Prop} (hgd : o.guard = none) (s x : Operand) (t e : TypeId) (z : Value) (bytes : Nat) (ht : Tryz.prog.underlying t = some (.slice e))
    (hinfo : (Tryz.prog.info? e).map (fun i => (i.zero, i.size, i.bytes)) = some (some z, 1, bytes)) (hzs : z.cells.size = 1) (hby : bytes ≤ 64)
    (ho : o.op = .call { callee := .builtin .append, args := #[s, x], argTypes := #[t, t] })
    (base : Nat) (v : Value) (xs : List Value) (hs : a.eval s = v) (hown : OR w base e v xs) (p : Value) (hp : p.oneCell' = true) (k : Nat) (hx : a.eval x = .slice (some ⟨k, 0, none⟩) 1 1) (hc : w.cell? ⟨k, 0, none⟩ = some p)
    (hlen : xs.length + 1 ≤ 1099511627776) (hbase : base ≤ w.heap.size)
    (h : ∀ v' w', OR w' base e v' (xs ++ [p]) → w.grownBy w' v.ownBlock → wpList Tryz.prog ops Q rest (a.put o.dst v') w') : wpList Tryz.prog ops Q (o :: rest) a w := by
  obtain ⟨i0, hi, hz0, hz1, hz2⟩ := info_parts hinfo
  refine wpList_append_own_at w hgd s x t ho base e i0 z 1 bytes ht hi hz0 hz1 hz2 hzs (by decide) v xs.length xs hs hown ⟨k, 0, none⟩ 1 1 [p] hx rfl ?_ (by simpa using hp) (by unfold maxLen; omega) ?_ hbase (fun v' w' h1 h2 _ _ => h v' w' ?_ h2)
  · intro j u hj
    match j, hj with
    | 0, hj => simp at hj; subst hj; simpa [Addr.add] using hc
  · have h1 : (xs.length + 1) * bytes ≤ (xs.length + 1) * 64 := Nat.mul_le_mul_left _ hby
    omega
  · unfold OR
    rw [List.length_append]
    exact h1

/-! ### Dead, at the member's own blocks -/
theorem dead_same {w : World} {b bn bl : Nat} {rv : Value} {S : MS} (h : MemIn w b bn bl rv S 0 0) : Calls Tryz.prog 36 #[.pointer (some ⟨b, 0, none⟩)] w fun e w' => e = .returned (.bool S.dead) ∧ MemIn w' b bn bl rv S 0 0 ∧ Sp (blk b bn bl rv) w w' := by
  go_enter_defers Tryz.func36, Tryz.ntmps36
  go_wp2_with fail
  refine (rlock_any h).mono ?_
  rintro e w1 ⟨rfl, h1, k1⟩
  have cD := h1.cD
  go_wp2_with fail
  refine leaves_cons (f := 76) (args := #[.pointer (some ⟨b, 4, none⟩)]) (by simp) (by simp [go_sem]) ?_
  refine (runlock_any h1 .returning).mono ?_
  rintro e u' w2 ⟨rfl, rfl, h2, k2⟩
  exact ⟨_, results_tmp rfl _ _ _, rfl, h2, (k1.trans k2).b⟩
theorem ow_dead2 {w0 w : World} {b : Nat} {T : List Nat} {S : MS} (h : Ow w0 w b T S) : Calls Tryz.prog 36 #[.pointer (some ⟨b, 0, none⟩)] w fun e w' => e = .returned (.bool S.dead) ∧ Ow w0 w' b T S ∧ Sp T w w' := by
  obtain ⟨bn, bl, rv, rfl, h1, h2⟩ := h
  exact (dead_same h1).mono fun e w' ⟨he, hm, hs⟩ => ⟨he, ⟨bn, bl, rv, rfl, hm, h2⟩, hs⟩
/-- one of its members, and a call that leaves it as it is. -/
theorem BX.still {w0 w : World} {b m : Nat} {X F : List Nat} {B : BS} (h : BX w0 w b m X F B) (i : Nat) (hi : i < B.ms.length) : ∃ P, (∀ t, t ∈ P → t ∈ F) ∧ Ow w0 w (X.getD i 0) P (B.ms.getD i noM) ∧ ∀ w', Ow w0 w' (X.getD i 0) P (B.ms.getD i noM) → Sp P w w' → BX w0 w' b m X F B := by
  obtain ⟨P, p1, p2, p3⟩ := h.fam.same OL.ow noM i hi
  refine ⟨P, p1, p2, fun w' q1 q2 => ?_⟩
  have q := q2.mono p1
  exact ⟨h.p.sp q h.n1, Nat.lt_of_lt_of_le h.hm q.size, fun j hj => q.held (h.ar j hj) h.n2, p3 w' q1 q2, h.n1, h.n2, h.n3, h.n4, h.n5, h.gd⟩

/-! ### Live -/
def vn (L : List Nat) : List Value := L.map (fun (n : Nat) => Value.int .i64 ((n : Nat) : Int))
theorem vn_len (L : List Nat) : (vn L).length = L.length := by simp [vn]
theorem vn_at (L : List Nat) (j : Nat) (h : j < L.length) : (vn L)[j]? = some (.int .i64 ((L.getD j 0 : Nat) : Int)) := by
  simp [vn, h]
/-- the numbers that Live tells. -/
def Lv (W w : World) (v : Value) (L : List Nat) : Prop := ∃ a g cap, v = .slice a L.length cap ∧ L.length ≤ cap ∧ cap ≤ 9223372036854775807 ∧ (0 < L.length → a = some ⟨g, 0, none⟩ ∧ W.heap.size ≤ g ∧ g < w.heap.size) ∧ ∀ j, j < L.length → w.cell? ⟨g, j, none⟩ = some (.int .i64 ((L.getD j 0 : Nat) : Int))
theorem Lv.of {W w : World} {v : Value} {L : List Nat} {e : TypeId} (h : OR w W.heap.size e v (vn L)) : Lv W w v L := by
  obtain ⟨a, g, cap, h1, h2, h3, h4, h5⟩ := h.shape
  rw [vn_len] at h1 h2 h4 h5
  exact ⟨a, g, cap, h1, h2, h3, h4, fun j hj => (h5 j hj).trans (vn_at L j hj)⟩
theorem Lv.sp {W w w' : World} {v : Value} {L : List Nat} (h : Lv W w v L) {T : List Nat} (k : Sp T w w') (hT : ∀ t, t ∈ T → t < W.heap.size ∨ w.heap.size ≤ t) : Lv W w' v L := by
  obtain ⟨a, g, cap, h1, h2, h3, h4, h5⟩ := h
  refine ⟨a, g, cap, h1, h2, h3, fun h0 => ⟨(h4 h0).1, (h4 h0).2.1, Nat.lt_of_lt_of_le (h4 h0).2.2 k.size⟩, fun j hj => k.held (h5 j hj) (fun ht => ?_)⟩
  have := h4 (by omega)
  have := hT g ht
  omega
theorem lv_more (L : List MS) (k : Nat) (h : k < L.length) (hd : (L.getD k noM).dead = false) : vn (lvL 0 (L.take (k + 1))) = vn (lvL 0 (L.take k)) ++ [.int .i64 (k : Int)] := by
  rw [lvL_take L k h, hd, if_neg (by decide)]
  simp [vn]
theorem lv_less (L : List MS) (k : Nat) (h : k < L.length) (hd : (L.getD k noM).dead = true) : vn (lvL 0 (L.take (k + 1))) = vn (lvL 0 (L.take k)) := by
  rw [lvL_take L k h, hd, if_pos rfl]

set_option maxRecDepth 100000 in
set_option maxHeartbeats 1000000 in
theorem live_any {w0 w : World} {b m : Nat} {X F : List Nat} {B : BS} (h : BX w0 w b m X F B) : Calls Tryz.prog 28 #[.pointer (some ⟨b, 0, none⟩)] w fun e w' => ∃ v, e = .returned v ∧ Lv w w' v (lvL 0 B.ms) ∧ BX w0 w' b m X F B ∧ Sp (b :: m :: F) w w' := by
  have c3 := h.p.c3
  obtain ⟨s1, s2⟩ := h.size
  obtain ⟨n, hn⟩ : ∃ n, n = B.ms.length := ⟨_, rfl⟩
  rw [← hn] at c3 s1 s2
  have HN := hid hn
  have H := hid h
  have HT : Hid (∀ t, t ∈ b :: m :: F → t < w.heap.size) := h.low
  clear hn h
  go_enter Tryz.func28, Tryz.ntmps28
  go_wp2_with fail
  go_loopw [3, 13] (fun v i wr => ∃ k : Nat, k ≤ n ∧ i = .int .i64 k ∧ Hid (OR wr w.heap.size 3 v (vn (lvL 0 (B.ms.take k)))) ∧ Hid (BX w0 wr b m X F B) ∧ Hid (Sp (b :: m :: F) w wr)) (fun _ i _ => n - (intOf i).toNat)
  case atStart => exact ⟨0, by omega, by go_num, World.ownsRow_nil _ _ _ _, H, Sp.refl _ _⟩
  case round =>
    clear H c3
    obtain ⟨k, hk, rfl, HO, HX, HS⟩ := hrel
    by_cases hlt : k < n
    · have hk2 : k < B.ms.length := by rw [← HN.out]; exact hlt
      have ar := HX.out.ar k hk2
      obtain ⟨P, p1, p2, p3⟩ := HX.out.still k hk2
      have hd := ow_dead2 p2
      have HP3 := hid p3
      have HP1 := hid p1
      clear p1 p2 p3
      go_wp2_with fail
      refine hd.mono ?_
      rintro e w1 ⟨rfl, o1, k1⟩
      have x1 := HP3.out w1 o1 k1
      have k1F : Sp (b :: m :: F) wr w1 := k1.mono (fun t ht => by simp [HP1.out t ht])
      have HX1 := hid x1
      have HS1 : Hid (Sp (b :: m :: F) w w1) := HS.out.trans k1F
      have HO1 : Hid (OR w1 w.heap.size 3 u3 (vn (lvL 0 (B.ms.take k)))) := HO.out.sp k1F HT.out
      clear x1 k1F k1 o1 HX HS HO HP3 HP1 ar
      cases hdd : (B.ms.getD k noM).dead with
      | true =>
        have e1 := lv_less B.ms k hk2 hdd
        have HO2 : Hid (OR w1 w.heap.size 3 u3 (vn (lvL 0 (B.ms.take (k + 1))))) := by rw [e1]; exact HO1
        clear e1 hdd HO1
        go_wp2
        go_roundw
        case rel => exact ⟨k + 1, by omega, by go_num, HO2, HX1, HS1⟩
        case measure => simp [intOf]; omega
      | false =>
        have e1 := lv_more B.ms k hk2 hdd
        have HL : Hid ((vn (lvL 0 (B.ms.take k))).length ≤ 32) := by
          have := lvL_len (B.ms.take k) 0
          rw [List.length_take] at this
          show (vn (lvL 0 (B.ms.take k))).length ≤ 32
          rw [vn_len]; omega
        have hs1 := HS1.out.size
        have HE := hid e1
        clear e1 hdd
        go_wp2_with (at_builtin; refine wpList_append_or rfl _ _ 61 3 (.int .i64 0) 8 Tryz.underlying61 info_int rfl (by omega) rfl w.heap.size _ _ rfl (HO1.out.kp ((Kp.refl w1).alloc (.cells #[.int .i64 (k : Int)] 3))) (.int .i64 (k : Int)) rfl _ rfl (by rw [World.cell?_alloc_at _ _ _ _ rfl]; rfl) (by have := HL.out; omega) (by simp; omega) ?_)
        intro v' w3 ho3 hg3
        have HO3 : Hid (OR w3 w.heap.size 3 v' (vn (lvL 0 (B.ms.take (k + 1))))) := by rw [HE.out]; exact ho3
        have sp3 : Sp (u3.ownBlock.toList) w1 w3 := (((Kp.refl w1).alloc (.cells #[.int .i64 (k : Int)] 3)).sp _).trans (Sp.grown hg3)
        have far : ∀ t, t ∈ b :: m :: F → t ∉ u3.ownBlock.toList := fun t ht hm => by
          have h1 := (World.ownsRow.lt HO1.out t (by simpa using hm)).1
          have := HT.out t ht
          omega
        have HX3 : Hid (BX w0 w3 b m X F B) := HX1.out.sp sp3 far
        have HS3 : Hid (Sp (b :: m :: F) w w3) := by
          have q := HS1.out
          exact ⟨sp3.os.trans q.os, sp3.tape.trans q.tape, sp3.output.trans q.output, Nat.le_trans q.size sp3.size, fun i hi hT => (sp3.block i (Nat.lt_of_lt_of_le hi q.size) (fun hm => by
            have h1 := (World.ownsRow.lt HO1.out i (by simpa using hm)).1
            omega)).trans (q.block i hi hT)⟩
        clear ho3 hg3 sp3 far HO1 HX1 HS1 HE HL
        go_wp2
        go_roundw
        case rel => exact ⟨k + 1, by omega, by go_num, HO3, HX3, HS3⟩
        case measure => simp [intOf]; omega
    · obtain rfl : k = n := by omega
      go_wp2
      go_ret
      refine ⟨_, rfl, ?_, HX.out, HS.out⟩
      have := Lv.of HO.out
      rw [List.take_of_length_le (by rw [HN.out]; omega)] at this
      exact this
theorem bw_live {w0 w : World} {b : Nat} {T : List Nat} {B : BS} (h : Bw w0 w b T B) : Calls Tryz.prog 28 #[.pointer (some ⟨b, 0, none⟩)] w fun e w' => ∃ v, e = .returned v ∧ Lv w w' v (lvL 0 B.ms) ∧ Bw w0 w' b T B ∧ Sp T w w' := by
  obtain ⟨m, X, F, rfl, h1⟩ := h
  exact (live_any h1).mono fun e w' ⟨v, he, hl, hb, hs⟩ => ⟨v, he, hl, ⟨m, X, F, rfl, hb⟩, hs⟩

end Go.Proofs.YtinpkfdmellleaaGreat

namespace Go.Proofs.YtinpkfdmellleaaGreat
open Go.RowKit Plain
set_option linter.unusedVariables false

/-- lists of words in memory, apart from the blocks T. -/
structure Ks (w0 w : World) (T : List Nat) (v : Value) (n : Nat) (ks : Nat → List Nat) : Prop where
  h : ∃ a g off cap, v = .slice a n cap ∧ n ≤ cap ∧ cap ≤ 9223372036854775807 ∧ (0 < n → a = some ⟨g, off, none⟩ ∧ g < w.heap.size ∧ g ∉ T) ∧ ∀ j, j < n → ∃ u, w.cell? ⟨g, off + j, none⟩ = some u ∧ KeIn w0 u (ks j)
  z : ∀ j, n ≤ j → ks j = []
theorem Ks.none (w0 w : World) (T : List Nat) : Ks w0 w T (.slice none 0 0) 0 (fun _ => []) := ⟨⟨_, 0, 0, 0, rfl, by omega, by omega, fun h => absurd h (by omega), fun j hj => absurd hj (by omega)⟩, fun _ _ => rfl⟩
theorem KeIn.off {w0 : World} {v : Value} {ks : List Nat} (h : KeIn w0 v ks) {P : List Nat} (hP : ∀ t, t ∈ P → w0.heap.size ≤ t) : ∀ t, t ∈ P → ∀ g off n c, v = .slice (some ⟨g, off, none⟩) n c → 0 < n → g ≠ t := fun t ht g off n c hv hn => by
  have h1 := h.far g off n c hv hn
  have h2 := hP t ht
  omega
theorem BX.atX {w0 w : World} {b m : Nat} {X F : List Nat} {B : BS} (h : BX w0 w b m X F B) (i : Nat) (hi : i < B.ms.length) : ∃ P, (∀ t, t ∈ P → t ∈ F) ∧ Ow w0 w (X.getD i 0) P (B.ms.getD i noM) ∧ ∀ w' S', Nx w0 w w' (X.getD i 0) P S' → Right S' → S'.row.length ≤ B.g → ∃ F', BX w0 w' b m X F' ⟨B.pw, B.md, B.g, B.ms.set i S'⟩ ∧ Sp F w w' ∧ Nw w F F' := by
  obtain ⟨P, p1, p2, p3⟩ := h.fam.at OL.ow noM i hi
  refine ⟨P, p1, p2, fun w' S' hn hr hl => ?_⟩
  obtain ⟨F', q1, q2, q3⟩ := p3 w' S' hn
  have hbF : b ∉ F' := fun ht => by
    rcases q3 b ht with h5 | h5
    · exact h.n1 h5
    · have := h.p.hb; omega
  have hmF : m ∉ F' := fun ht => by
    rcases q3 m ht with h5 | h5
    · exact h.n2 h5
    · have := h.hm; omega
  have hl2 : (B.ms.set i S').length = B.ms.length := by simp
  have gd := h.gd.put (i : Int) S' hr hl
  exact ⟨F', ⟨by show PwIn w' b (.slice _ (B.ms.set i S').length (B.ms.set i S').length) B.pw B.md B.g; rw [hl2]; exact h.p.sp q2 h.n1, Nat.lt_of_lt_of_le h.hm q2.size, fun j hj => q2.held (h.ar j (by rw [← hl2]; exact hj)) h.n2, q1, hbF, hmF, h.n3, h.n4, h.n5, gd⟩, q2, q3⟩
theorem nw_more {w : World} {b m : Nat} {F F' : List Nat} (h : Nw w F F') : Nw w (b :: m :: F) (b :: m :: F') := fun t ht => by
  simp only [List.mem_cons] at ht ⊢
  rcases ht with rfl | rfl | ht
  · exact .inl (.inl rfl)
  · exact .inl (.inr (.inl rfl))
  · rcases h t ht with h5 | h5
    · exact .inl (.inr (.inr h5))
    · exact .inr h5
theorem cr_row (S : MS) (f : Nat → Bool) : (cr S f).row.length ≤ 0 := Nat.le_refl _
/-- behind k members' crashes. -/
def Ck (w0 w wr : World) (b m : Nat) (X F : List Nat) (B : BS) (ks : Nat → List Nat) (k : Nat) : Prop := ∃ F', BX w0 wr b m X F' ⟨B.pw, B.md, B.g, crM ks 0 k B.ms⟩ ∧ Sp (b :: m :: F) w wr ∧ Nw w (b :: m :: F) (b :: m :: F')
/-- one more of them. -/
theorem Ck.step {w0 w wr : World} {b m : Nat} {X F : List Nat} {B : BS} {ks : Nat → List Nat} {k : Nat} (h : Ck w0 w wr b m X F B ks k) (K : Kp w0 w) (hN : ∀ t, t ∈ b :: m :: F → w0.heap.size ≤ t) (hk : k < B.ms.length) (hg : B.g < 1000000) (v : Value) (hv : KeIn w0 v (ks k)) : Calls Tryz.prog 84 #[.pointer (some ⟨X.getD k 0, 0, none⟩), v] wr fun e w' => e = .returned (.tuple #[]) ∧ Ck w0 w w' b m X F B ks (k + 1) := by
  obtain ⟨F', h1, h2, h3⟩ := h
  have K1 : Kp w0 wr := Sp.kp K h2 hN
  have hl : (crM ks 0 k B.ms).length = B.ms.length := crM_len _ _ _ _
  obtain ⟨P, p1, p2, p3⟩ := h1.atX k (by show k < (crM ks 0 k B.ms).length; rw [hl]; exact hk)
  have e : (crM ks 0 k B.ms).getD k noM = B.ms.getD k noM := by
    rw [crM_at ks B.ms 0 k k hk, if_neg (by omega)]
  have p2' : Ow w0 wr (X.getD k 0) P (B.ms.getD k noM) := by rw [← e]; exact p2
  have hrl : (B.ms.getD k noM).row.length < 1000000 := by
    have := h1.gd.rl (B.ms.getD k noM) (by
      rw [← e]
      show _ ∈ crM ks 0 k B.ms
      rw [List.getD_eq_getElem?_getD, List.getElem?_eq_getElem (by rw [hl]; exact hk)]
      exact List.getElem_mem _)
    have h9 : (B.ms.getD k noM).row.length ≤ B.g := this
    omega
  refine (ow_crash p2' K1 v (ks k) (hv.kp K1) (hv.off p2'.new) hrl).mono fun e' w' ⟨he, hn⟩ => ⟨he, ?_⟩
  obtain ⟨F2, q1, q2, q3⟩ := p3 w' _ hn (Right.cr _) (Nat.le_trans (cr_row _ _) (Nat.zero_le _))
  refine ⟨F2, ?_, h2.then (q2.mono (fun t ht => by simp [ht])) h3, h3.trans (nw_more q3) h2.size⟩
  have em := crM_more ks B.ms 0 k hk
  rw [Nat.zero_add] at em
  rw [em]
  exact q1

set_option maxRecDepth 100000 in
set_option maxHeartbeats 1000000 in
theorem crash_bay {w0 w : World} {b m : Nat} {X F : List Nat} {B : BS} (h : BX w0 w b m X F B) (K : Kp w0 w) (v : Value) (n : Nat) (ks : Nat → List Nat) (hv : Ks w0 w (b :: m :: F) v n ks) (hg : B.g < 1000000) : Calls Tryz.prog 34 #[.pointer (some ⟨b, 0, none⟩), v] w fun e w' => e = .returned (.tuple #[]) ∧ Nz Bw w0 w w' b (b :: m :: F) (crB B ks) := by
  have c3 := h.p.c3
  obtain ⟨s1, s2⟩ := h.size
  have HN : Hid (∀ t, t ∈ b :: m :: F → w0.heap.size ≤ t) := h.new
  have H0 : Hid (Ck w0 w w b m X F B ks 0) := ⟨F, by rw [crM_none _ _ _ _ (Nat.le_refl _)]; exact h, Sp.refl _ _, Nw.refl _ _⟩
  have HGd := hid h.gd
  obtain ⟨N, hNN⟩ : ∃ N, N = B.ms.length := ⟨_, rfl⟩
  rw [← hNN] at c3 s1 s2
  have HL := hid hNN
  obtain ⟨a, g, off, cap, rfl, v1, v2, v3, v4⟩ := hv.h
  have HZ := hid hv.z
  have HV3 := hid v3
  have HV4 := hid v4
  clear h hNN hv v3 v4
  go_enter Tryz.func34, Tryz.ntmps34
  go_wp2_with fail
  go_loopw [13] (fun i wr => ∃ k : Nat, k ≤ N ∧ i = .int .i64 k ∧ Hid (Ck w0 w wr b m X F B ks k)) (fun i _ => N - (intOf i).toNat)
  case atStart => exact ⟨0, by omega, by go_num, H0⟩
  case round =>
    clear H0 c3
    obtain ⟨k, hk, rfl, HC⟩ := hrel
    by_cases hlt : k < N
    · have hk2 : k < B.ms.length := by rw [← HL.out]; exact hlt
      have ar : wr.cell? ⟨m, k, none⟩ = some (.pointer (some ⟨X.getD k 0, 0, none⟩)) := by
        obtain ⟨F', x1, _⟩ := HC.out
        exact x1.ar k (by show k < (crM ks 0 k B.ms).length; rw [crM_len]; exact hk2)
      by_cases hkn : k < n
      · obtain ⟨rfl, hgl, hgT⟩ := HV3.out (by omega)
        obtain ⟨u, hu, hke⟩ := HV4.out k hkn
        have hu2 : wr.cell? ⟨g, off + k, none⟩ = some u := by
          obtain ⟨F', _, x2, _⟩ := HC.out
          exact x2.held hu hgT
        have hc := Ck.step HC.out K HN.out hk2 hg u hke
        clear hu hke hgl hgT HC hk2
        go_wp2_with fail
        refine hc.mono ?_
        rintro e w1 ⟨rfl, q1⟩
        have Q1 := hid q1
        clear q1 hc
        go_wp2
        go_roundw
        case rel => exact ⟨k + 1, by omega, by go_num, Q1⟩
        case measure => simp [intOf]; omega
      · have hke : KeIn w0 (.slice none 0 0) (ks k) := by rw [HZ.out k (by omega)]; exact ke_nil w0
        have hc := Ck.step HC.out K HN.out hk2 hg _ hke
        have hkn2 : ¬ (k : Int) < (n : Int) := by omega
        clear hke HC hk2
        go_wp2_with fail
        refine hc.mono ?_
        rintro e w1 ⟨rfl, q1⟩
        have Q1 := hid q1
        clear q1 hc
        go_wp2
        go_roundw
        case rel => exact ⟨k + 1, by omega, by go_num, Q1⟩
        case measure => simp [intOf]; omega
    · obtain rfl : k = N := by omega
      obtain ⟨F', x1, x2, x3⟩ := HC.out
      have hr := restore_any x1.p
      have HX1 := hid x1
      have HX2 := hid x2
      have HX3 := hid x3
      clear x1 x2 x3 HC
      go_wp2_with fail
      refine hr.mono ?_
      rintro e w1 ⟨rfl, p1, k1⟩
      have gd : Gd (crB B ks) := HGd.out.crash ks
      have ec : crB B ks = ⟨none, B.md, B.g, crM ks 0 k B.ms⟩ := by unfold crB; rw [← HL.out]
      have hx : BX w0 w1 b m X F' (crB B ks) := by
        have := HX1.out.pow (B' := ⟨none, B.md, B.g, crM ks 0 k B.ms⟩) k1 p1 rfl (by rw [← ec]; exact gd)
        rw [ec]; exact this
      have q : Hid (Nz Bw w0 w w1 b (b :: m :: F) (crB B ks)) := ⟨b :: m :: F', ⟨m, X, F', rfl, hx⟩, HX2.out.trans k1.bb, HX3.out⟩
      clear p1 k1 gd ec hx hr
      go_wp2
      go_end0
      exact ⟨rfl, q.out⟩
theorem bw_crash {w0 w : World} {b : Nat} {T : List Nat} {B : BS} (h : Bw w0 w b T B) (K : Kp w0 w) (v : Value) (n : Nat) (ks : Nat → List Nat) (hv : Ks w0 w T v n ks) (hg : B.g < 1000000) : Calls Tryz.prog 34 #[.pointer (some ⟨b, 0, none⟩), v] w fun e w' => e = .returned (.tuple #[]) ∧ Nz Bw w0 w w' b T (crB B ks) := by
  obtain ⟨m, X, F, rfl, h1⟩ := h
  exact crash_bay h1 K v n ks hv hg

end Go.Proofs.YtinpkfdmellleaaGreat

namespace Go.Proofs.YtinpkfdmellleaaGreat
open Go.RowKit Plain
set_option linter.unusedVariables false

theorem nb_find (i : Int) (w : World) : Calls Tryz.prog 53 #[.pointer none, .int .i64 i] w fun e w' => e = .returned (.tuple #[.pointer none, .int .i64 1]) ∧ w' = w := by
  go_enter Tryz.func53, Tryz.ntmps53
  go_wp2
  go_ret2
  exact ⟨rfl, rfl⟩
theorem nb_member (i : Int) (w : World) : Calls Tryz.prog 16 #[.pointer none, .int .i64 i] w fun e w' => e = .returned (.pointer none) ∧ w' = w := by
  go_enter Tryz.func16, Tryz.ntmps16
  go_wp2_with fail
  refine (nb_find i w).mono ?_
  rintro e w1 ⟨rfl, rfl⟩
  go_wp2
  go_ret
  exact ⟨rfl, rfl⟩
theorem nb_step (i : Int) (w : World) : Calls Tryz.prog 48 #[.pointer none, .int .i64 i] w fun e w' => e = .returned (.tuple #[.pointer none, .int .i64 1]) ∧ w' = w := by
  go_enter Tryz.func48, Tryz.ntmps48
  go_wp2_with fail
  refine (nb_find i w).mono ?_
  rintro e w1 ⟨rfl, rfl⟩
  go_wp2
  go_ret2
  exact ⟨rfl, rfl⟩
theorem nb_write (i k : Int) (s : ByteArray) (w : World) : Calls Tryz.prog 14 #[.pointer none, .int .i64 i, .int .i64 k, .string s] w fun e w' => e = .returned (.int .i64 1) ∧ w' = w := by
  go_enter Tryz.func14, Tryz.ntmps14
  go_wp2_with fail
  refine (nb_step i w).mono ?_
  rintro e w1 ⟨rfl, rfl⟩
  go_wp2
  go_ret
  exact ⟨rfl, rfl⟩
theorem nb_flush (i : Int) (w : World) : Calls Tryz.prog 111 #[.pointer none, .int .i64 i] w fun e w' => e = .returned (.int .i64 1) ∧ w' = w := by
  go_enter Tryz.func111, Tryz.ntmps111
  go_wp2_with fail
  refine (nb_step i w).mono ?_
  rintro e w1 ⟨rfl, rfl⟩
  go_wp2
  go_ret
  exact ⟨rfl, rfl⟩
theorem nb_read (i k : Int) (w : World) : Calls Tryz.prog 117 #[.pointer none, .int .i64 i, .int .i64 k] w fun e w' => e = .returned (.tuple #[.string ByteArray.empty, .int .i64 1]) ∧ w' = w := by
  go_enter Tryz.func117, Tryz.ntmps117
  go_wp2_with fail
  refine (nb_find i w).mono ?_
  rintro e w1 ⟨rfl, rfl⟩
  go_wp2
  go_ret2
  exact ⟨rfl, rfl⟩
theorem nb_size (w : World) : Calls Tryz.prog 58 #[.pointer none] w fun e w' => e = .returned (.int .i64 0) ∧ w' = w := by
  go_enter Tryz.func58, Tryz.ntmps58
  go_wp2
  go_ret
  exact ⟨rfl, rfl⟩
theorem nb_steps (w : World) : Calls Tryz.prog 25 #[.pointer none] w fun e w' => e = .returned (.int .i64 0) ∧ w' = w := by
  go_enter Tryz.func25, Tryz.ntmps25
  go_wp2
  go_ret
  exact ⟨rfl, rfl⟩
theorem nb_live (w : World) : Calls Tryz.prog 28 #[.pointer none] w fun e w' => e = .returned (.slice none 0 0) ∧ w' = w := by
  go_enter Tryz.func28, Tryz.ntmps28
  go_wp2
  go_ret
  exact ⟨rfl, rfl⟩
theorem nb_cut (n : Int) (w : World) : Calls Tryz.prog 29 #[.pointer none, .int .i64 n] w fun e w' => e = .returned (.tuple #[]) ∧ w' = w := by
  go_enter Tryz.func29, Tryz.ntmps29
  go_wp2
  first | go_end0 | refine bodyPost_ret (results_none rfl _ _ _) rfl ?_
  exact ⟨rfl, rfl⟩
theorem nb_crash (a : Option Addr) (n c : Nat) (w : World) : Calls Tryz.prog 34 #[.pointer none, .slice a n c] w fun e w' => e = .returned (.tuple #[]) ∧ w' = w := by
  go_enter Tryz.func34, Tryz.ntmps34
  go_wp2
  first | go_end0 | refine bodyPost_ret (results_none rfl _ _ _) rfl ?_
  exact ⟨rfl, rfl⟩
/-- a member itself, or none. -/
theorem bw_member {w0 w : World} {b : Nat} {T : List Nat} {B : BS} (h : Bw w0 w b T B) {i : Int} (hi : fdE B i = 0) : Calls Tryz.prog 16 #[.pointer (some ⟨b, 0, none⟩), .int .i64 i] w fun e w' => ∃ x, e = .returned (.pointer (some ⟨x, 0, none⟩)) ∧ w' = w := by
  obtain ⟨m, X, F, rfl, h1⟩ := h
  have hm := member_any h1 i
  unfold ptr at hm
  rw [if_pos hi] at hm
  exact hm.mono fun e w' ⟨he, hw⟩ => ⟨_, he, hw⟩
theorem bw_nomember {w0 w : World} {b : Nat} {T : List Nat} {B : BS} (h : Bw w0 w b T B) {i : Int} (hi : fdE B i ≠ 0) : Calls Tryz.prog 16 #[.pointer (some ⟨b, 0, none⟩), .int .i64 i] w fun e w' => e = .returned (.pointer none) ∧ w' = w := by
  obtain ⟨m, X, F, rfl, h1⟩ := h
  have hm := member_any h1 i
  unfold ptr at hm
  rw [if_neg hi] at hm
  exact hm
theorem op_no {B : BS} {i : Int} (h : fdE B i ≠ 0) (f : MS → Int) (g : MS → MS) : opE B i f = 11 ∧ opS B i g = ⟨B.pw, B.md, B.g + 1, B.ms⟩ := by
  obtain ⟨_, h1, h2⟩ := fd_no h
  unfold opE opS
  rw [if_neg (by rw [h1]; decide), if_neg (by rw [h1]; decide), h1, h2]
  exact ⟨rfl, rfl⟩
theorem rd_no {B : BS} {i : Int} (h : fdE B i ≠ 0) (k : Int) : rdT B i k = ByteArray.empty ∧ rdE B i k = 11 ∧ rdB B i k = B := by
  obtain ⟨_, h1, h2⟩ := fd_no h
  unfold rdT rdE rdB
  rw [if_neg (by rw [h1]; decide), if_neg (by rw [h1]; decide), if_neg (by rw [h1]; decide), h1]
  exact ⟨rfl, rfl, rfl⟩

end Go.Proofs.YtinpkfdmellleaaGreat

namespace Go.Proofs.YtinpkfdmellleaaGreat
open Go.RowKit Plain
set_option linter.unusedVariables false

/-! ### its writes -/
def pcs : List (Nat × ByteArray) → List Value
  | [] => []
  | p :: r => .int .i64 (p.1 : Int) :: .string p.2 :: pcs r
theorem pcs_len : ∀ r, (pcs r).length = r.length * 2
  | [] => rfl
  | p :: r => by simp only [pcs, List.length_cons, pcs_len r]; omega
theorem pcs_app : ∀ r q, pcs (r ++ q) = pcs r ++ pcs q
  | [], _ => rfl
  | p :: r, q => by simp only [pcs, List.cons_append, pcs_app r q]
theorem pcs_at : ∀ (r : List (Nat × ByteArray)) (i : Nat), i < r.length → (pcs r)[i * 2]? = some (.int .i64 ((r.getD i (0, noS)).1 : Int)) ∧ (pcs r)[i * 2 + 1]? = some (.string (r.getD i (0, noS)).2)
  | [], i, h => by simp at h
  | p :: r, 0, h => by simp [pcs]
  | p :: r, i + 1, h => by
    have := pcs_at r i (by simpa using h)
    rw [show (i + 1) * 2 = i * 2 + 1 + 1 by omega]
    simpa [pcs] using this
theorem pcs_one : ∀ r, ∀ u ∈ pcs r, u.oneCell' = true
  | [], u, h => by cases h
  | p :: r, u, h => by
    simp only [pcs, List.mem_cons] at h
    rcases h with rfl | rfl | h
    · rfl
    · rfl
    · exact pcs_one r u h
/-- the document's member. -/
structure RefIn (w : World) (r gs cap : Nat) (wv : Value) (S : MS) : Prop where
  hr : r < w.heap.size
  hg : gs < w.heap.size
  c0 : w.cell? ⟨r, 0, none⟩ = some (.slice (some ⟨gs, 0, none⟩) S.las.length cap)
  c1 : w.cell? ⟨r, 1, none⟩ = some wv
  c2 : w.cell? ⟨r, 2, none⟩ = some (.bool S.dead)
  cn : ∀ j, j < 4 → w.cell? ⟨r, 3 + j, none⟩ = some (.int .i64 (S.c j))
  z : ∀ o, w.frozen? ⟨r, o, none⟩ = false
  s : ∀ i, i < S.las.length → w.cell? ⟨gs, i, none⟩ = some (.string (S.las.getD i noS))
  sz : ∀ i, w.frozen? ⟨gs, i, none⟩ = false
  q : w.ownsRow 0 156 2 wv S.row.length (pcs S.row)
  k1 : S.las.length ≤ cap
  k2 : cap ≤ 9223372036854775807
  n1 : gs ≠ r
  n2 : ∀ g, wv.ownBlock = some g → g ≠ r ∧ g ≠ gs
  fine : Fine S
def rblk (r gs : Nat) (wv : Value) : List Nat := r :: gs :: wv.ownBlock.toList
theorem RefIn.sp {w w' : World} {r gs cap : Nat} {wv : Value} {S : MS} (h : RefIn w r gs cap wv S) {T : List Nat} (k : Sp T w w') (hT : ∀ t, t ∈ rblk r gs wv → t ∉ T) : RefIn w' r gs cap wv S := by
  have h0 : r ∉ T := hT r (by simp [rblk])
  have h1 : gs ∉ T := hT gs (by simp [rblk])
  exact ⟨Nat.lt_of_lt_of_le h.hr k.size, Nat.lt_of_lt_of_le h.hg k.size, k.held h.c0 h0, k.held h.c1 h0, k.held h.c2 h0, fun j hj => k.held (h.cn j hj) h0, fun o => (k.frozen h.hr h0 o).trans (h.z o), fun i hi => k.held (h.s i hi) h1, fun i => (k.frozen h.hg h1 i).trans (h.sz i), k.own h.q (fun g hg => hT g (by simp [rblk, hg])), h.k1, h.k2, h.n1, h.n2, h.fine⟩
theorem RefIn.kp {w w' : World} {r gs cap : Nat} {wv : Value} {S : MS} (h : RefIn w r gs cap wv S) (k : Kp w w') : RefIn w' r gs cap wv S := h.sp (k.sp []) (fun _ _ h => by cases h)
theorem RefIn.low {w : World} {r gs cap : Nat} {wv : Value} {S : MS} (h : RefIn w r gs cap wv S) : ∀ t, t ∈ rblk r gs wv → t < w.heap.size := fun t ht => by
  simp only [rblk, List.mem_cons] at ht
  rcases ht with rfl | rfl | ht
  · exact h.hr
  · exact h.hg
  · exact (h.q.lt t (by simpa using ht)).2
/-- a store into its own block keeps the rest. -/
theorem RefIn.own {w w' : World} {r gs cap : Nat} {wv : Value} {S : MS} (h : RefIn w r gs cap wv S) (k : Sp [r] w w') : (∀ i, i < S.las.length → w'.cell? ⟨gs, i, none⟩ = some (.string (S.las.getD i noS))) ∧ (∀ i, w'.frozen? ⟨gs, i, none⟩ = false) ∧ w'.ownsRow 0 156 2 wv S.row.length (pcs S.row) := by
  have h1 : gs ∉ [r] := by simpa using h.n1
  exact ⟨fun i hi => k.held (h.s i hi) h1, fun i => (k.frozen h.hg h1 i).trans (h.sz i), k.own h.q (fun g hg => by simpa using (h.n2 g hg).1)⟩
theorem RefIn.count {w : World} {r gs cap : Nat} {wv : Value} {S : MS} (h : RefIn w r gs cap wv S) (j : Nat) (hj : j < 4) : RefIn (w.setCell ⟨r, 3 + j, none⟩ (.int .i64 (wrap64 (S.c j + 1)))) r gs cap wv ⟨S.now, S.las, S.row, S.dead, up S.c j⟩ := by
  have k := (Sp.refl [r] w).set r (3 + j) (by simp) (.int .i64 (wrap64 (S.c j + 1)))
  obtain ⟨s1, s2, s3⟩ := h.own k
  refine ⟨Nat.lt_of_lt_of_le h.hr k.size, Nat.lt_of_lt_of_le h.hg k.size, by rw [cell_off _ _ _ _ _ (by omega)]; exact h.c0, by rw [cell_off _ _ _ _ _ (by omega)]; exact h.c1, by rw [cell_off _ _ _ _ _ (by omega)]; exact h.c2, fun i hi => ?_, fun o => (World.frozen?_setCell _ _ _ _).trans (h.z o), s1, s2, s3, h.k1, h.k2, h.n1, h.n2, ⟨h.fine.n1, h.fine.n2, h.fine.nn, h.fine.bn, h.fine.bl, h.fine.br⟩⟩
  show _ = some (Value.int .i64 (up S.c j i))
  unfold up
  by_cases e : i = j
  · subst e; rw [World.cell?_setCell_same _ _ _ (h.cn i hi), if_pos rfl]
  · rw [cell_off _ _ _ _ _ (by omega), h.cn i hi, if_neg e]
theorem RefIn.death {w : World} {r gs cap : Nat} {wv : Value} {S : MS} (h : RefIn w r gs cap wv S) (d : Bool) : RefIn (w.setCell ⟨r, 2, none⟩ (.bool d)) r gs cap wv ⟨S.now, S.las, S.row, d, S.c⟩ := by
  have k := (Sp.refl [r] w).set r 2 (by simp) (.bool d)
  obtain ⟨s1, s2, s3⟩ := h.own k
  exact ⟨Nat.lt_of_lt_of_le h.hr k.size, Nat.lt_of_lt_of_le h.hg k.size, by rw [cell_off _ _ _ _ _ (by omega)]; exact h.c0, by rw [cell_off _ _ _ _ _ (by omega)]; exact h.c1, World.cell?_setCell_same _ _ _ h.c2, fun i hi => by rw [cell_off _ _ _ _ _ (by omega)]; exact h.cn i hi, fun o => (World.frozen?_setCell _ _ _ _).trans (h.z o), s1, s2, s3, h.k1, h.k2, h.n1, h.n2, ⟨h.fine.n1, h.fine.n2, h.fine.nn, h.fine.bn, h.fine.bl, h.fine.br⟩⟩
/-- another row. -/
theorem RefIn.row {w : World} {r gs cap : Nat} {wv : Value} {S : MS} (h : RefIn w r gs cap wv S) {w' : World} (k : Sp wv.ownBlock.toList w w') (wv' : Value) (row : List (Nat × ByteArray)) (hq : w'.ownsRow 0 156 2 wv' row.length (pcs row)) (hn : ∀ g, wv'.ownBlock = some g → g ≠ r ∧ g ≠ gs) (hz : ∀ p ∈ row, p.1 < S.las.length ∧ p.2.size = 64) : RefIn (w'.setCell ⟨r, 1, none⟩ wv') r gs cap wv' ⟨S.now, S.las, row, S.dead, S.c⟩ := by
  have q := (Sp.refl [r] w').set r 1 (by simp) wv'
  have hT : ∀ t, t = r ∨ t = gs → t ∉ wv.ownBlock.toList := fun t ht hm => by
    obtain ⟨h1, h2⟩ := h.n2 t (by simpa using hm)
    rcases ht with rfl | rfl
    · exact h1 rfl
    · exact h2 rfl
  have hR := hT r (.inl rfl)
  have hG := hT gs (.inr rfl)
  have hl := Nat.lt_of_lt_of_le h.hr k.size
  have h1 : gs ∉ [r] := by simpa using h.n1
  exact ⟨Nat.lt_of_lt_of_le hl q.size, Nat.lt_of_lt_of_le (Nat.lt_of_lt_of_le h.hg k.size) q.size, by rw [cell_off _ _ _ _ _ (by omega)]; exact k.held h.c0 hR, World.cell?_setCell_same _ _ _ (k.held h.c1 hR), by rw [cell_off _ _ _ _ _ (by omega)]; exact k.held h.c2 hR, fun i hi => by rw [cell_off _ _ _ _ _ (by omega)]; exact k.held (h.cn i hi) hR,
    fun o => (World.frozen?_setCell _ _ _ _).trans ((k.frozen h.hr hR o).trans (h.z o)), fun i hi => q.held (k.held (h.s i hi) hG) h1, fun i => (q.frozen (Nat.lt_of_lt_of_le h.hg k.size) h1 i).trans ((k.frozen h.hg hG i).trans (h.sz i)), q.own hq (fun g hg => by simpa using (hn g hg).1), h.k1, h.k2, h.n1, hn, ⟨h.fine.n1, h.fine.n2, h.fine.nn, h.fine.bn, h.fine.bl, hz⟩⟩
/-- another sector. -/
theorem RefIn.sector {w : World} {r gs cap : Nat} {wv : Value} {S : MS} (h : RefIn w r gs cap wv S) (i : Nat) (hi : i < S.las.length) (t : ByteArray) (ht : t.size = 64) : RefIn (w.setCell ⟨gs, i, none⟩ (.string t)) r gs cap wv ⟨S.now, S.las.set i t, S.row, S.dead, S.c⟩ := by
  have k := (Sp.refl [gs] w).set gs i (by simp) (.string t)
  have h1 : r ∉ [gs] := by simpa using h.n1.symm
  have hl : (S.las.set i t).length = S.las.length := List.length_set
  refine ⟨Nat.lt_of_lt_of_le h.hr k.size, Nat.lt_of_lt_of_le h.hg k.size, by show _ = some (Value.slice _ (S.las.set i t).length cap); rw [hl]; exact k.held h.c0 h1, k.held h.c1 h1, k.held h.c2 h1, fun j hj => k.held (h.cn j hj) h1, fun o => (k.frozen h.hr h1 o).trans (h.z o), fun j hj => ?_, fun j => (World.frozen?_setCell _ _ _ _).trans (h.sz j), k.own h.q (fun g hg => by simpa using (h.n2 g hg).2), by show (S.las.set i t).length ≤ cap; rw [hl]; exact h.k1, h.k2, h.n1, h.n2,
    ⟨by show 1 ≤ (S.las.set i t).length; rw [hl]; exact h.fine.n1, by show (S.las.set i t).length ≤ 256; rw [hl]; exact h.fine.n2, by show S.now.length = (S.las.set i t).length; rw [hl]; exact h.fine.nn, h.fine.bn, set_all h.fine.bl i t ht, fun p hp => ⟨by show p.1 < (S.las.set i t).length; rw [hl]; exact (h.fine.br p hp).1, (h.fine.br p hp).2⟩⟩⟩
  rw [show (⟨S.now, S.las.set i t, S.row, S.dead, S.c⟩ : MS).las = S.las.set i t from rfl, hl] at hj
  show _ = some (Value.string ((S.las.set i t).getD j noS))
  by_cases e : i = j
  · subst e; rw [getD_set_eq hj, World.cell?_setCell_same _ _ _ (h.s i hj)]
  · rw [getD_set_ne e, cell_off _ _ _ _ _ (fun e' => e e'.symm)]; exact h.s j hj
/-- behind a call. -/
def Rd (w w' : World) (r gs : Nat) (wv : Value) (S : MS) : Prop := ∃ gs' cap' wv', RefIn w' r gs' cap' wv' S ∧ Sp (rblk r gs wv) w w' ∧ Nw w (rblk r gs wv) (rblk r gs' wv')
theorem Sp.rr {w w' : World} {r gs : Nat} {wv : Value} (h : Sp [r] w w') : Sp (rblk r gs wv) w w' := h.mono (fun t ht => by simp at ht; subst ht; simp [rblk])
theorem Sp.rg {w w' : World} {r gs : Nat} {wv : Value} (h : Sp [gs] w w') : Sp (rblk r gs wv) w w' := h.mono (fun t ht => by simp at ht; subst ht; simp [rblk])
theorem Sp.rq {w w' : World} {r gs : Nat} {wv : Value} (h : Sp wv.ownBlock.toList w w') : Sp (rblk r gs wv) w w' := h.mono (fun t ht => by simp [rblk]; exact .inr (.inr (by simpa using ht)))
theorem nw_rnone (w : World) (r gs : Nat) (wv : Value) : Nw w (rblk r gs wv) (rblk r gs (.slice none 0 0)) := fun t ht => .inl (by
  simp [rblk, Value.ownBlock] at ht
  rcases ht with rfl | rfl <;> simp [rblk])

set_option maxRecDepth 100000 in
theorem may_any {w : World} {r gs cap : Nat} {wv : Value} {S : MS} (h : RefIn w r gs cap wv S) (k : Int) : Calls Tryz.prog 92 #[.pointer (some ⟨r, 0, none⟩), .int .i64 k] w fun e w' => e = .returned (.int .i64 (rcE S k)) ∧ w' = w := by
  have c0 := h.c0
  have c2 := h.c2
  have n2 := h.fine.n2
  obtain ⟨n, hn⟩ : ∃ n, n = S.las.length := ⟨_, rfl⟩
  rw [← hn] at c0 n2
  unfold rcE
  rw [← hn]
  obtain ⟨d, hd⟩ : ∃ d, d = S.dead := ⟨_, rfl⟩
  rw [← hd] at c2 ⊢
  clear hn hd h
  cases d with
  | true =>
    rw [if_pos rfl]
    go_enter Tryz.func92, Tryz.ntmps92
    go_wp2
    go_ret
    exact ⟨rfl, rfl⟩
  | false =>
    rw [if_neg (by simp)]
    by_cases h0 : 0 ≤ k
    · by_cases h1 : k < n
      · rw [if_pos ⟨h0, h1⟩]
        go_enter Tryz.func92, Tryz.ntmps92
        go_wp2
        go_ret
        exact ⟨rfl, rfl⟩
      · rw [if_neg (fun h => h1 h.2)]
        go_enter Tryz.func92, Tryz.ntmps92
        go_wp2
        go_ret
        exact ⟨rfl, rfl⟩
    · rw [if_neg (fun h => h0 h.1)]
      go_enter Tryz.func92, Tryz.ntmps92
      go_wp2
      go_ret
      exact ⟨rfl, rfl⟩
theorem rfail_any {w : World} {r gs cap : Nat} {wv : Value} {S : MS} (h : RefIn w r gs cap wv S) : Calls Tryz.prog 18 #[.pointer (some ⟨r, 0, none⟩)] w fun e w' => e = .returned (.tuple #[]) ∧ Rd w w' r gs wv (fa S) := by
  have c1 := h.c1
  have c2 := h.c2
  have z1 := h.z 1
  have z2 := h.z 2
  have h3 := (h.death true).row (Sp.refl _ _) (.slice none 0 0) [] (World.ownsRow_nil _ _ _ _) (fun g hg => by cases hg) (fun p hp => by cases hp)
  have k3 : Sp [r] w ((w.setCell ⟨r, 2, none⟩ (.bool true)).setCell ⟨r, 1, none⟩ (.slice none 0 0)) := ((Sp.refl [r] w).set r 2 (by simp) _).set r 1 (by simp) _
  clear h
  go_enter Tryz.func18, Tryz.ntmps18
  go_wp2
  go_end0
  exact ⟨rfl, _, _, _, h3, k3.rr, nw_rnone _ _ _ _⟩

end Go.Proofs.YtinpkfdmellleaaGreat

namespace Go.Proofs.YtinpkfdmellleaaGreat
open Go.RowKit Plain
set_option linter.unusedVariables false

theorem info87 : (Tryz.prog.info? 156).map (fun i => (i.zero, i.size, i.bytes)) = some (some (.agg #[.int .i64 0, .string ByteArray.empty]), 2, 24) := by kernel_rfl
theorem wpList_append_pc {w : World} {ops : Array Oper} {rest : List Oper} {o : Oper} {a : Act} {Q : Exit → Act → World → Prop} (hgd : o.guard = none) (s x : Operand)
    (ho : o.op = .call { callee := .builtin .append, args := #[s, x], argTypes := #[71, 71] }) (v : Value) (r : List (Nat × ByteArray)) (hs : a.eval s = v) (hq : w.ownsRow 0 156 2 v r.length (pcs r)) (N c : Nat) (p : Nat × ByteArray) (hx : a.eval x = .slice (some ⟨N, 0, none⟩) 1 c)
    (d0 : w.cell? ⟨N, 0, none⟩ = some (.int .i64 (p.1 : Int))) (d1 : w.cell? ⟨N, 1, none⟩ = some (.string p.2)) (hb : r.length < 1000000)
    (h : ∀ v' w', w'.ownsRow 0 156 2 v' (r ++ [p]).length (pcs (r ++ [p])) → Sp v.ownBlock.toList w w' → (v'.ownBlock = v.ownBlock ∨ v'.ownBlock = some w.heap.size) → wpList Tryz.prog ops Q rest (a.put o.dst v') w') : wpList Tryz.prog ops Q (o :: rest) a w := by
  obtain ⟨i, hi, hzz⟩ := Option.map_eq_some_iff.1 info87
  simp only [Prod.mk.injEq] at hzz
  obtain ⟨hz0, hs0, hby⟩ := hzz
  refine wpList_append_own_at (P := Tryz.prog) w hgd s x 71 ho 0 156 i _ 2 24 Tryz.underlying71 hi hz0 hs0 hby rfl (by omega) v r.length (pcs r) hs hq ⟨N, 0, none⟩ 1 c [.int .i64 (p.1 : Int), .string p.2] hx rfl (fun j u hu => ?_) (fun u hu => ?_) (by unfold maxLen; omega) (by omega) (Nat.zero_le _) (fun v' w' h1 h2 _ h4 => h v' w' ?_ ⟨h2.os, h2.tape, h2.output, h2.size, fun k hk hn => h2.block k hk (fun e => hn (by rw [← e]; simp))⟩ h4)
  · have hj := (List.getElem?_eq_some_iff.1 hu).1
    have : j = 0 ∨ j = 1 := by simp at hj; omega
    rw [Addr.add_mid]
    rcases this with rfl | rfl
    · simp at hu; subst hu; exact d0
    · simp at hu; subst hu; exact d1
  · simp at hu
    rcases hu with rfl | rfl <;> rfl
  · rw [List.length_append, pcs_app]
    exact h1
theorem wrap_up (x : Int) : IntKind.i64.wrap (x + 1) = wrap64 (x + 1) := by simp only [wrap64, IntKind.wrap_i64]
theorem RefIn.wl {w : World} {r gs cap : Nat} {wv : Value} {S : MS} (h : RefIn w r gs cap wv S) : ∃ a c, wv = .slice a S.row.length c ∧ S.row.length ≤ c ∧ c ≤ 9223372036854775807 := by
  rcases h.q.2 with ⟨rfl, h1⟩ | ⟨g, c, cur, rfl, _, _, hn, hm, _⟩
  · exact ⟨none, 0, by rw [h1], by omega, by omega⟩
  · exact ⟨_, c, rfl, hn, by unfold maxLen at hm; omega⟩
theorem RefIn.wat {w : World} {r gs cap : Nat} {wv : Value} {S : MS} (h : RefIn w r gs cap wv S) (h0 : 0 < S.row.length) : ∃ g c, wv = .slice (some ⟨g, 0, none⟩) S.row.length c ∧ ∀ i, i < S.row.length → w.cell? ⟨g, i * 2, none⟩ = some (.int .i64 ((S.row.getD i (0, noS)).1 : Int)) ∧ w.cell? ⟨g, i * 2 + 1, none⟩ = some (.string (S.row.getD i (0, noS)).2) := by
  rcases h.q.2 with ⟨_, h1⟩ | ⟨g, c, cur, e, _⟩
  · omega
  · have hq := h.q
    rw [e] at hq
    refine ⟨g, c, e, fun i hi => ⟨?_, ?_⟩⟩
    · rw [hq.cellAt (i * 2) (by omega)]; exact (pcs_at S.row i hi).1
    · rw [hq.cellAt (i * 2 + 1) (by omega)]; exact (pcs_at S.row i hi).2
set_option maxRecDepth 100000 in
set_option maxHeartbeats 1000000 in
theorem put_any {w : World} {r gs cap : Nat} {wv : Value} {S : MS} (h : RefIn w r gs cap wv S) (k : Int) (s : ByteArray) (hrl : S.row.length < 1000000) :
    Calls Tryz.prog 52 #[.pointer (some ⟨r, 0, none⟩), .int .i64 k, .string s] w fun e w' => e = .returned (.int .i64 (wrE S k s)) ∧ Rd w w' r gs wv (wr S k s) := by
  have hm := may_any h k
  by_cases hE : rcE S k = 0
  · rw [hE] at hm
    by_cases hs : s.size = 64
    · have e1 : wrE S k s = 0 := by unfold wrE; rw [if_pos hE, if_pos hs]
      have e2 : wr S k s = ⟨S.now.set k.toNat s, S.las, S.row ++ [(k.toNat, s)], S.dead, up S.c 1⟩ := if_pos e1
      obtain ⟨hd, h0, hlt⟩ := rc_ok hE
      obtain ⟨i, rfl⟩ : ∃ i : Nat, k = (i : Int) := ⟨k.toNat, by omega⟩
      rw [Int.toNat_natCast] at e2
      rw [e1, e2]
      have hss : (s.size : Int) = 64 := by omega
      have c1 := h.c1
      have H := hid h
      have HS := hid hs
      have hi : i < S.las.length := by omega
      have hr := h.hr
      clear hE e1 e2 hs hd h0
      obtain ⟨a, cc, rfl, z1_, z2_⟩ := h.wl
      obtain ⟨n, hn⟩ : ∃ n, n = S.row.length := ⟨_, rfl⟩
      rw [← hn] at c1 H ⊢
      have HN := hid hn
      clear hn h z1_
      go_enter Tryz.func52, Tryz.ntmps52
      go_wp2_with fail
      refine hm.mono ?_
      rintro e w1 ⟨rfl, rfl⟩
      obtain ⟨W, hW⟩ : ∃ W, W = w1.alloc (.cells #[.int .i64 (i : Int), .string s] 156) := ⟨_, rfl⟩
      have kW : Kp w1 W := by rw [hW]; exact (Kp.refl w1).alloc _
      have d0 : W.cell? ⟨w1.heap.size, 0, none⟩ = some (.int .i64 (i : Int)) := by rw [hW, World.cell?_alloc_at _ _ _ _ rfl]; rfl
      have d1 : W.cell? ⟨w1.heap.size, 1, none⟩ = some (.string s) := by rw [hW, World.cell?_alloc_at _ _ _ _ rfl]; rfl
      have hq := (H.out.kp kW).q
      rw [hW] at d0 d1 hq
      have HD0 := hid d0
      have HD1 := hid d1
      have HQ := hid hq
      have HW := hid hW
      have HKW := hid kW
      clear d0 d1 hq hW kW hm
      go_wp2_with (refine wpList_append_pc rfl _ _ rfl _ S.row rfl HQ.out w1.heap.size 1 (i, s) rfl HD0.out HD1.out hrl ?_)
      intro v' w3 q3 s3 g3
      rw [← HW.out] at s3
      have sp3 : Sp (Value.slice a n cc).ownBlock.toList w1 w3 := (HKW.out.sp _).trans s3
      have q3' : w3.ownsRow 0 156 2 v' (S.row ++ [(i, s)]).length (pcs (S.row ++ [(i, s)])) := by rw [List.length_append]; exact q3
      have g3' : ∀ g, v'.ownBlock = some g → (Value.slice a n cc).ownBlock = some g ∨ w1.heap.size ≤ g := fun g hg => by
        rcases g3 with h | h
        · left; rw [← h]; exact hg
        · right; rw [h] at hg; cases hg; omega
      have M3 := H.out.row sp3 v' (S.row ++ [(i, s)]) q3' (fun g hg => by
        rcases g3' g hg with h | h
        · exact H.out.n2 g h
        · have h1 := H.out.hr; have h2 := H.out.hg; exact ⟨by omega, by omega⟩) (fun p hp => by
        rcases List.mem_append.1 hp with h | h
        · exact H.out.fine.br p h
        · rw [List.mem_singleton.1 h]; exact ⟨hi, HS.out⟩)
      have S4 : Sp (rblk r gs (.slice a n cc)) w1 (w3.setCell ⟨r, 1, none⟩ v') := sp3.rq.trans ((Sp.refl [r] w3).set r 1 (by simp) _).rr
      have N4 : Nw w1 (rblk r gs (.slice a n cc)) (rblk r gs v') := fun t ht => by
        simp only [rblk, List.mem_cons] at ht
        rcases ht with rfl | rfl | ht
        · exact .inl (by simp [rblk])
        · exact .inl (by simp [rblk])
        · rcases g3' t (by simpa using ht) with h | h
          · exact .inl (by simp [rblk, h])
          · exact .inr h
      have c1' := sp3.held H.out.c1 (fun hm => (H.out.n2 r (by simpa using hm)).1 rfl)
      have z1' := (sp3.frozen H.out.hr (fun hm => (H.out.n2 r (by simpa using hm)).1 rfl) 1).trans (H.out.z 1)
      have ho : v'.oneCell' = true := by
        rcases q3.2 with ⟨rfl, _⟩ | ⟨g, c, cur, rfl, _⟩ <;> rfl
      obtain ⟨g', n', c', hv'⟩ : ∃ g' n' c', v' = .slice g' n' c' := by
        rcases q3.2 with ⟨rfl, _⟩ | ⟨g, c, cur, rfl, _⟩
        · exact ⟨_, _, _, rfl⟩
        · exact ⟨_, _, _, rfl⟩
      subst hv'
      obtain ⟨W4, hW4⟩ : ∃ W4, W4 = w3.setCell ⟨r, 1, none⟩ (.slice g' n' c') := ⟨_, rfl⟩
      rw [← hW4] at M3 S4
      have cc4 := M3.cn 1 (by omega)
      have zz4 := M3.z 4
      have HM3 := hid M3
      have HS4 := hid S4
      have HN4 := hid N4
      have HW4 := hid hW4
      have hwp := wrap_up (S.c 1)
      obtain ⟨C1, hC1⟩ : ∃ C1, C1 = wrap64 (S.c 1 + 1) := ⟨_, rfl⟩
      rw [← hC1] at hwp
      have HC1 := hid hC1
      simp only at cc4
      obtain ⟨C0, hC0⟩ : ∃ C0, C0 = S.c 1 := ⟨_, rfl⟩
      rw [← hC0] at cc4 hwp HC1
      have HC0 := hid hC0
      clear hC1 hC0 hW4 M3 S4 N4 q3 q3' g3 g3' s3 sp3 HD0 HD1 HQ HW HKW ho
      go_wp2_with fail
      rw [← HW4.out]
      clear HW4 c1' z1' c1
      go_region
      have M5 := (HM3.out.kp (Kp.refl W4).drew).count 1 (by omega)
      have S5 : Sp [r] W4 (W4.drew.setCell ⟨r, 3 + 1, none⟩ (.int .i64 C1)) := ((Kp.refl W4).drew.sp [r]).trans ((Sp.refl [r] _).set r _ (by simp) _)
      rw [show wrap64 ((⟨S.now, S.las, S.row ++ [(i, s)], S.dead, S.c⟩ : MS).c 1 + 1) = C1 from by rw [HC1.out, HC0.out]] at M5
      go_wp2
      go_ret
      refine ⟨rfl, gs, cap, _, ?_, HS4.out.trans S5.rr, HN4.out⟩
      exact ⟨M5.hr, M5.hg, M5.c0, M5.c1, M5.c2, M5.cn, M5.z, M5.s, M5.sz, M5.q, M5.k1, M5.k2, M5.n1, M5.n2, ⟨M5.fine.n1, M5.fine.n2, by simpa using M5.fine.nn, set_all M5.fine.bn i s HS.out, M5.fine.bl, M5.fine.br⟩⟩
    · have e1 : wrE S k s = 4 := by unfold wrE; rw [if_pos hE, if_neg hs]
      have e2 : wr S k s = S := by unfold wr; rw [e1]; rfl
      rw [e1, e2]
      have hs3 : ¬ (s.size : Int) = 64 := by omega
      clear hE hs e1 e2
      go_enter Tryz.func52, Tryz.ntmps52
      go_wp2_with fail
      refine hm.mono ?_
      rintro e w1 ⟨rfl, rfl⟩
      have hR : Rd w1 w1 r gs wv S := ⟨gs, cap, wv, h, Sp.refl _ _, Nw.refl _ _⟩
      clear h hm
      go_wp2
      go_ret
      exact ⟨rfl, hR⟩
  · have e1 : wrE S k s = rcE S k := if_neg hE
    have e2 : wr S k s = S := by unfold wr; rw [e1, if_neg hE]
    rw [e1, e2]
    obtain ⟨E, hEE⟩ : ∃ E, E = rcE S k := ⟨_, rfl⟩
    rw [← hEE] at hE hm ⊢
    have hE2 : (E == 0) = false := by simpa using hE
    clear hEE hE e1 e2
    go_enter Tryz.func52, Tryz.ntmps52
    go_wp2_with fail
    refine hm.mono ?_
    rintro e w1 ⟨rfl, rfl⟩
    have hR : Rd w1 w1 r gs wv S := ⟨gs, cap, wv, h, Sp.refl _ _, Nw.refl _ _⟩
    clear h hm
    go_wp2
    go_ret
    exact ⟨rfl, hR⟩

end Go.Proofs.YtinpkfdmellleaaGreat

namespace Go.Proofs.YtinpkfdmellleaaGreat
open Go.RowKit Plain
set_option linter.unusedVariables false

/-- the bytes of a sector, by the last write. -/
def nowD (l : List ByteArray) : List (Nat × ByteArray) → Nat → ByteArray
  | [], i => l.getD i noS
  | p :: r, i => nowD (l.set p.1 p.2) r i
theorem nowD_pl : ∀ (r : List (Nat × ByteArray)) (l : List ByteArray) (i : Nat), nowD l r i = (pl l r).getD i noS
  | [], _, _ => rfl
  | p :: r, l, i => nowD_pl r _ i
theorem pl_hit (l : List ByteArray) (r : List (Nat × ByteArray)) (j i : Nat) (hj : j < r.length) (hi : i < l.length) (hp : (r.getD j (0, noS)).1 = i) (hl : ∀ m, j < m → m < r.length → (r.getD m (0, noS)).1 ≠ i) : (pl l r).getD i noS = (r.getD j (0, noS)).2 := by
  have e : r = r.take (j + 1) ++ r.drop (j + 1) := (List.take_append_drop _ _).symm
  have h1 : ∀ (q : List (Nat × ByteArray)) (l : List ByteArray), (∀ p ∈ q, p.1 ≠ i) → (pl l q).getD i noS = l.getD i noS := by
    intro q
    induction q with
    | nil => intro l _; rfl
    | cons p q ih =>
      intro l hq
      simp only [pl]
      rw [ih _ (fun x hx => hq x (List.mem_cons_of_mem _ hx)), getD_set_ne (hq p List.mem_cons_self)]
  conv => lhs; rw [e]
  rw [pl_app, h1 _ _ (fun p hp => ?_), pl_take l r j hj, ← hp]
  · exact getD_set_eq (by rw [pl_len, hp]; exact hi) _ _
  · obtain ⟨m, hm, rfl⟩ := List.getElem_of_mem hp
    rw [List.getElem_drop]
    have := hl (j + 1 + m) (by omega) (by rw [List.length_drop] at hm; omega)
    rw [List.getD_eq_getElem?_getD, List.getElem?_eq_getElem (by rw [List.length_drop] at hm; omega)] at this
    exact this
theorem pl_miss (l : List ByteArray) (r : List (Nat × ByteArray)) (i : Nat) (hl : ∀ m, m < r.length → (r.getD m (0, noS)).1 ≠ i) : (pl l r).getD i noS = l.getD i noS := by
  induction r generalizing l with
  | nil => rfl
  | cons p q ih =>
    simp only [pl]
    rw [ih _ (fun m hm => by have := hl (m + 1) (by simp; omega); simpa using this), getD_set_ne (by have := hl 0 (by simp); simpa using this)]
set_option maxRecDepth 100000 in
set_option maxHeartbeats 1000000 in
theorem now_any {w : World} {r gs cap : Nat} {wv : Value} {S : MS} (h : RefIn w r gs cap wv S) (i : Nat) (hi : i < S.las.length) : Calls Tryz.prog 27 #[.pointer (some ⟨r, 0, none⟩), .int .i64 (i : Int)] w fun e w' => e = .returned (.string ((pl S.las S.row).getD i noS)) ∧ w' = w := by
  obtain ⟨a, cc, rfl, hn1, hn2⟩ := h.wl
  obtain ⟨n, hn⟩ : ∃ n, n = S.row.length := ⟨_, rfl⟩
  rw [← hn] at h hn1
  have HN := hid hn
  have c0 := h.c0
  have c1 := h.c1
  have H := hid h
  have k1 := h.k1
  have k2 := h.k2
  have f2 := h.fine.n2
  obtain ⟨V, hV⟩ : ∃ V, V = (pl S.las S.row).getD i noS := ⟨_, rfl⟩
  rw [← hV]
  have HV := hid hV
  obtain ⟨L, hL⟩ : ∃ L, L = S.las.length := ⟨_, rfl⟩
  rw [← hL] at c0 hi k1 f2
  have HL := hid hL
  clear hn h hV hL
  go_enter Tryz.func27, Tryz.ntmps27
  go_wp2_with fail
  go_loopw [5] (fun q wr => ∃ k : Nat, k ≤ n ∧ q = .int .i64 ((k : Int) - 1) ∧ Hid (∀ m, k ≤ m → m < n → (S.row.getD m (0, noS)).1 ≠ i) ∧ wr = w) (fun q _ => ((intOf q) + 1).toNat)
  case atStart => exact ⟨n, Nat.le_refl _, by go_num, fun m h1 h2 => by omega, rfl⟩
  case round =>
    obtain ⟨k, hk, rfl, HQ, rfl⟩ := hrel
    by_cases h0 : 0 < k
    · obtain ⟨g, c', hv, hat⟩ := H.out.wat (by rw [← HN.out]; omega)
      obtain rfl : a = some ⟨g, 0, none⟩ := by simp only [Value.slice.injEq] at hv; exact hv.1
      obtain ⟨k', rfl⟩ : ∃ k', k = k' + 1 := ⟨k - 1, by omega⟩
      obtain ⟨d0, d1⟩ := hat k' (by rw [← HN.out]; omega)
      have e1 : ((k' + 1 : Nat) : Int) - 1 = (k' : Int) := by omega
      rw [e1]
      obtain ⟨p, hp⟩ : ∃ p, p = S.row.getD k' (0, noS) := ⟨_, rfl⟩
      rw [← hp] at d0 d1
      have HP := hid hp
      have hk2 : (k' : Int) < (n : Int) := by omega
      obtain ⟨x, y⟩ := p
      simp only at d0 d1
      clear hp hv hat
      by_cases he : x = i
      · subst he
        have HF : Hid (V = y) := by
          show V = y
          rw [HV.out, pl_hit S.las S.row k' x (by rw [← HN.out]; omega) (by rw [← HL.out]; exact hi) (by rw [← HP.out]) (fun m h1 h2 => HQ.out m (by omega) (by rw [HN.out]; exact h2)), ← HP.out]
        go_wp2
        go_ret
        exact ⟨by rw [HF.out]; rfl, rfl⟩
      · have he2 : ((x : Int) == (i : Int)) = false := by simpa using (by omega : ¬ (x : Int) = (i : Int))
        have he3 : ¬ (x : Int) = (i : Int) := by omega
        have HQ2 : Hid (∀ m, k' ≤ m → m < n → (S.row.getD m (0, noS)).1 ≠ i) := fun m h1 h2 => by
          by_cases e : m = k'
          · subst e; rw [← HP.out]; exact he
          · exact HQ.out m (by omega) h2
        go_wp2
        go_roundw
        case rel => exact ⟨k', by omega, by go_num, HQ2, by first | rfl | trivial⟩
        case measure => first | (simp [intOf]; done) | (simp [intOf]; omega)
    · obtain rfl : k = 0 := by omega
      have cs := H.out.s i (by rw [← HL.out]; exact hi)
      have HF : Hid (V = S.las.getD i noS) := by
        show V = _
        rw [HV.out]
        exact pl_miss S.las S.row i (fun m hm => HQ.out m (by omega) (by rw [HN.out]; exact hm))
      have hi2 : (i : Int) < (L : Int) := by omega
      obtain ⟨U, hU⟩ : ∃ U, U = S.las.getD i noS := ⟨_, rfl⟩
      rw [← hU] at cs HF
      clear hU
      go_wp2
      go_ret
      exact ⟨by rw [HF.out]; rfl, rfl⟩
set_option maxRecDepth 100000 in
set_option maxHeartbeats 1000000 in
theorem rread_any {w : World} {r gs cap : Nat} {wv : Value} {S : MS} (h : RefIn w r gs cap wv S) (k : Int) (hR : Right S) : Calls Tryz.prog 119 #[.pointer (some ⟨r, 0, none⟩), .int .i64 k] w fun e w' => e = .returned (.tuple #[.string (rdS S k), .int .i64 (rcE S k)]) ∧ Rd w w' r gs wv (rd S k) := by
  have hm := may_any h k
  by_cases hE : rcE S k = 0
  · have e2 : rd S k = ⟨S.now, S.las, S.row, S.dead, up S.c 0⟩ := if_pos hE
    obtain ⟨hd, h0, hlt⟩ := rc_ok hE
    obtain ⟨i, rfl⟩ : ∃ i : Nat, k = (i : Int) := ⟨k.toNat, by omega⟩
    have e1 : rdS S (i : Int) = (pl S.las S.row).getD i noS := by rw [rd_in hd (by omega), hR.live hd]
    rw [e1, e2, hE]
    rw [hE] at hm
    have hi : i < S.las.length := by omega
    clear hE e1 e2 hd h0
    go_enter Tryz.func119, Tryz.ntmps119
    go_wp2_with fail
    refine hm.mono ?_
    rintro e w1 ⟨rfl, rfl⟩
    clear hm
    have cc4 := h.cn 0 (by omega)
    have zz4 := h.z 3
    try simp only at cc4
    have HM3 := hid h
    have hwp := wrap_up ((S).c 0)
    try simp only at hwp
    obtain ⟨C1, hC1⟩ : ∃ C1, C1 = wrap64 ((S).c 0 + 1) := ⟨_, rfl⟩
    try simp only at hC1
    rw [← hC1] at hwp
    have HC1 := hid hC1
    obtain ⟨C0, hC0⟩ : ∃ C0, C0 = (S).c 0 := ⟨_, rfl⟩
    try simp only at hC0
    rw [← hC0] at cc4 hwp HC1
    have HC0 := hid hC0
    clear hC1 hC0 h
    go_wp2_with fail
    go_region
    have M5 := (HM3.out.kp (Kp.refl w1).drew).count 0 (by omega)
    have S5 : Sp [r] w1 (w1.drew.setCell ⟨r, 3 + 0, none⟩ (.int .i64 C1)) := ((Kp.refl w1).drew.sp [r]).trans ((Sp.refl [r] _).set r _ (by simp) _)
    rw [show wrap64 ((S).c 0 + 1) = C1 from by rw [HC1.out, HC0.out]] at M5
    obtain ⟨W5, hW5⟩ : ∃ W5, W5 = w1.drew.setCell ⟨r, 3 + 0, none⟩ (.int .i64 C1) := ⟨_, rfl⟩
    rw [← hW5] at M5 S5
    have HW5 := hid hW5
    have hnow := now_any M5 i hi
    have HM5 := hid M5
    clear hW5 M5 HM3 cc4 zz4 hwp
    have hW5' : (w1.setCell ⟨r, 3, none⟩ (.int .i64 C1)).drew = W5 := HW5.out.symm
    rw [hW5']
    go_wp2_with fail
    refine hnow.mono ?_
    rintro e w6 ⟨rfl, rfl⟩
    clear hnow hW5' HW5
    go_wp2
    go_ret2
    exact ⟨rfl, gs, cap, wv, HM5.out, S5.rr, Nw.refl _ _⟩
  · have e1 : rdS S k = ByteArray.empty := if_neg hE
    have e2 : rd S k = S := if_neg hE
    rw [e1, e2]
    obtain ⟨E, hEE⟩ : ∃ E, E = rcE S k := ⟨_, rfl⟩
    rw [← hEE] at hE hm ⊢
    have hE2 : (E == 0) = false := by simpa using hE
    clear hEE hE e1 e2
    go_enter Tryz.func119, Tryz.ntmps119
    go_wp2_with fail
    refine hm.mono ?_
    rintro e w1 ⟨rfl, rfl⟩
    have hRd : Rd w1 w1 r gs wv S := ⟨gs, cap, wv, h, Sp.refl _ _, Nw.refl _ _⟩
    clear h hm
    go_wp2
    go_ret2
    exact ⟨rfl, hRd⟩

end Go.Proofs.YtinpkfdmellleaaGreat

namespace Go.Proofs.YtinpkfdmellleaaGreat
open Go.RowKit Plain
set_option linter.unusedVariables false

/-- sectors of one's own. -/
structure Sec (w : World) (n : Nat) (v : Value) (w0 : World) : Prop where
  h : ∃ g c, v = .slice (some ⟨g, 0, none⟩) n c ∧ n ≤ c ∧ c ≤ 9223372036854775807 ∧ w0.heap.size ≤ g ∧ g < w.heap.size ∧ (∀ i, i < n → w.cell? ⟨g, i, none⟩ = some (.string z64)) ∧ ∀ i, w.frozen? ⟨g, i, none⟩ = false
set_option maxRecDepth 100000 in
set_option maxHeartbeats 1000000 in
theorem blank_any (n : Nat) (h1 : 1 ≤ n) (h2 : n ≤ 256) (w : World) : Calls Tryz.prog 90 #[.int .i64 (n : Int)] w fun e w' => ∃ v, e = .returned v ∧ Sec w' n v w ∧ Kp w w' := by
  obtain ⟨i0, hi0, hzz⟩ := Option.map_eq_some_iff.1 info_str
  simp only [Prod.mk.injEq] at hzz
  obtain ⟨hz0, hz1, hz2⟩ := hzz
  have hmk : ∀ W : World, (Instr.makeSlice 37 (.int .i64 64) (.int .i64 64)).run Tryz.prog W = .ok (.slice (some ⟨W.heap.size, 0, none⟩) 64 64) (W.alloc (.cells (madeCells #[.int .u8 0] 64) 5)) := fun W => run_make_row' (P := Tryz.prog) 37 5 (.int .u8 0) 1 Tryz.underlying37 info_u8 rfl .i64 .i64 64 (by omega) (by omega) W
  have hcv : ∀ W : World, (convert 37 9 (.slice (some ⟨W.heap.size, 0, none⟩) 64 64)).run Tryz.prog (W.alloc (.cells (madeCells #[.int .u8 0] 64) 5)) = .ok (.string z64) (W.alloc (.cells (madeCells #[.int .u8 0] 64) 5)) := fun W => conv_of _ _ 64 (fun _ => 0) (fun i hi => by rw [World.cell?_alloc_at _ _ _ _ rfl]; simp [madeCells, hi, Nat.mod_one])
  go_enter Tryz.func90, Tryz.ntmps90
  go_wp2_with fail
  go_loopw [3, 4] (fun v i wr => ∃ k : Nat, k ≤ n ∧ i = .int .i64 k ∧ Hid (wr.ownsRow w.heap.size 9 1 v k (List.replicate k (.string z64))) ∧ Hid (Kp w wr)) (fun _ i _ => n - (intOf i).toNat)
  case atStart => exact ⟨0, by omega, by go_num, World.ownsRow_nil _ _ _ _, Kp.refl w⟩
  case round =>
    obtain ⟨k, hk, rfl, HO, HK⟩ := hrel
    by_cases hlt : k < n
    · have hcw := hcv wr
      obtain ⟨W, hW⟩ : ∃ W, W = wr.alloc (.cells (madeCells #[.int .u8 0] 64) 5) := ⟨_, rfl⟩
      have kW : Kp wr W := by rw [hW]; exact (Kp.refl wr).alloc _
      have hown : (W.alloc (.cells #[.string z64] 9)).ownsRow w.heap.size 9 1 u3 k (List.replicate k (.string z64)) := ((kW.sp []).own HO.out (fun _ _ => by simp)).alloc _
      have hWs : W.heap.size = wr.heap.size + 1 := by rw [hW]; simp
      have hs := HK.out.size
      rw [hW] at hown
      have HOW := hid hown
      have HKW := hid (by rw [hW] at kW; exact (HK.out.trans kW).alloc (.cells #[.string z64] 9))
      have hZ : ¬ 9223372036854775807 < z64.size := by rw [z64_size]; omega
      clear hcv hown hW kW
      go_wp2_with (at_builtin; refine wpList_append_own _ rfl _ _ 70 rfl w.heap.size 9 i0 (.string ByteArray.empty) 1 16 Tryz.underlying70 hi0 hz0 hz1 hz2 rfl (by decide) _ _ _ rfl HOW.out ⟨wr.heap.size + 1, 0, none⟩ 1 1 [.string z64] rfl rfl ?c1 ?c2 ?c3 ?c4 ?c5 ?_)
      case c1 =>
        intro j u hj
        match j, hj with
        | 0, hj => simp at hj; subst hj; simp [Addr.add]
      case c2 => intro u hu; simp at hu; subst hu; rfl
      case c3 => unfold maxLen; omega
      case c4 => omega
      case c5 => simp; omega
      · intro v' w3 hown3 hgrow3 _
        have HK3 := hid (HKW.out.grown hgrow3 (fun g hg => (HOW.out.lt g hg).1))
        have HO3 : Hid (w3.ownsRow w.heap.size 9 1 v' (k + 1) (List.replicate (k + 1) (.string z64))) := by
          rw [List.replicate_succ']
          exact hown3
        clear hgrow3 hown3 HOW HKW HO HK hcw
        go_wp2
        go_roundw
        case rel => exact ⟨k + 1, by omega, by go_num, HO3, HK3⟩
        case measure => simp [intOf]; omega
    · obtain rfl : k = n := by omega
      clear hmk hcv
      go_wp2
      go_ret
      refine ⟨_, rfl, ⟨?_⟩, HK.out⟩
      have hO := HO.out
      rcases hO.2 with ⟨_, h0⟩ | ⟨g, c, cur, rfl, hbg, hg, hn, hm, _⟩
      · omega
      · refine ⟨g, c, rfl, hn, by unfold maxLen at hm; omega, hbg, (Array.getElem?_eq_some_iff.1 hg).1, fun i hi => ?_, fun i => hO.frozenAt i⟩
        rw [hO.cellAt i (by omega)]
        simp [hi]
theorem RefIn.fresh {w : World} {r gs cap n : Nat} (hr : r < w.heap.size) (hg : gs < w.heap.size) (c0 : w.cell? ⟨r, 0, none⟩ = some (.slice (some ⟨gs, 0, none⟩) n cap)) (c1 : w.cell? ⟨r, 1, none⟩ = some (.slice none 0 0)) (c2 : w.cell? ⟨r, 2, none⟩ = some (.bool false)) (C : Nat → Int) (cn : ∀ j, j < 4 → w.cell? ⟨r, 3 + j, none⟩ = some (.int .i64 (C j))) (z : ∀ o, w.frozen? ⟨r, o, none⟩ = false)
    (s : ∀ i, i < n → w.cell? ⟨gs, i, none⟩ = some (.string z64)) (sz : ∀ i, w.frozen? ⟨gs, i, none⟩ = false) (k1 : n ≤ cap) (k2 : cap ≤ 9223372036854775807) (n1 : gs ≠ r) (h1 : 1 ≤ n) (h2 : n ≤ 256) : RefIn w r gs cap (.slice none 0 0) ⟨List.replicate n z64, List.replicate n z64, [], false, C⟩ := by
  have hl : (List.replicate n z64).length = n := List.length_replicate
  refine ⟨hr, hg, by show _ = some (Value.slice _ (List.replicate n z64).length cap); rw [hl]; exact c0, c1, c2, cn, z, fun i hi => ?_, sz, World.ownsRow_nil _ _ _ _, by show (List.replicate n z64).length ≤ cap; rw [hl]; exact k1, k2, n1, fun g hg => (by cases hg), ⟨by show 1 ≤ (List.replicate n z64).length; rw [hl]; exact h1, by show (List.replicate n z64).length ≤ 256; rw [hl]; exact h2, rfl, rep_all n, rep_all n, fun p hp => (by cases hp)⟩⟩
  have hi' : i < n := by rw [← hl]; exact hi
  rw [s i hi']
  show some (Value.string z64) = some (Value.string ((List.replicate n z64).getD i noS))
  rw [List.getD_eq_getElem?_getD, List.getElem?_replicate, if_pos hi']
  rfl
set_option maxRecDepth 100000 in
set_option maxHeartbeats 1000000 in
theorem rnew_any (k : Int) (w : World) : Calls Tryz.prog 47 #[.int .i64 k] w fun e w' => ∃ r gs cap, e = .returned (.pointer (some ⟨r, 0, none⟩)) ∧ RefIn w' r gs cap (.slice none 0 0) (nw (nwN k)) ∧ Kp w w' ∧ w.heap.size ≤ r ∧ w.heap.size ≤ gs := by
  obtain ⟨N, hN⟩ : ∃ N, N = nwN k := ⟨_, rfl⟩
  rw [← hN]
  have e1 : 1 ≤ N := by rw [hN]; unfold nwN; omega
  have e2 : N ≤ 256 := by rw [hN]; unfold nwN; omega
  have hb := blank_any N e1 e2
  have key : ∀ (W : World) (v : Value), Kp w W → Sec W N v w → RefIn (W.alloc (.cells #[v, .slice none 0 0, .bool false, .int .i64 0, .int .i64 0, .int .i64 0, .int .i64 0] 74)) W.heap.size (match v with | .slice (some a) _ _ => a.block | _ => 0) (match v with | .slice _ _ c => c | _ => 0) (.slice none 0 0) (nw N) ∧ (∃ g n c, v = .slice (some ⟨g, 0, none⟩) n c ∧ w.heap.size ≤ g) := fun W v kW hs => by
    obtain ⟨g, c, rfl, q1, q2, q3, q4, q5, q6⟩ := hs.h
    refine ⟨?_, g, N, c, rfl, q3⟩
    have kA : Kp W (W.alloc (.cells #[.slice (some ⟨g, 0, none⟩) N c, .slice none 0 0, .bool false, .int .i64 0, .int .i64 0, .int .i64 0, .int .i64 0] 74)) := (Kp.refl W).alloc _
    have hc : ∀ i, (W.alloc (.cells #[.slice (some ⟨g, 0, none⟩) N c, .slice none 0 0, .bool false, .int .i64 0, .int .i64 0, .int .i64 0, .int .i64 0] 74)).cell? ⟨W.heap.size, i, none⟩ = #[.slice (some ⟨g, 0, none⟩) N c, .slice none 0 0, .bool false, .int .i64 0, .int .i64 0, .int .i64 0, .int .i64 0][i]? := fun i => World.cell?_alloc_at _ _ _ i rfl
    exact RefIn.fresh (by simp) (Nat.lt_of_lt_of_le q4 kA.size) (hc 0) (hc 1) (hc 2) (fun _ => 0) (fun j hj => by
      have : j = 0 ∨ j = 1 ∨ j = 2 ∨ j = 3 := by omega
      rcases this with rfl | rfl | rfl | rfl
      · exact hc 3
      · exact hc 4
      · exact hc 5
      · exact hc 6) (fun o => World.frozen?_alloc_at _ _ _ o rfl) (fun i hi => kA.held (q5 i hi)) (fun i => (Below.frozen (p := ⟨g, i, none⟩) kA q4).trans (q6 i)) q1 q2 (by omega) e1 e2
  have HK := hid key
  clear key
  by_cases h1 : k < 1
  · have hk : (N : Int) = 1 := by rw [hN]; unfold nwN; omega
    have hb1 := hb w
    rw [hk] at hb1
    clear hN hb hk
    go_enter Tryz.func47, Tryz.ntmps47
    go_wp2_with fail
    refine hb1.mono ?_
    rintro e w1 ⟨v, rfl, hs, k1⟩
    obtain ⟨hR, g, n, c, rfl, hg⟩ := HK.out w1 v k1 hs
    have kF := k1.alloc (.cells #[.slice (some ⟨g, 0, none⟩) n c, .slice none 0 0, .bool false, .int .i64 0, .int .i64 0, .int .i64 0, .int .i64 0] 74)
    clear HK hs hb1
    go_wp2
    go_ret
    exact ⟨_, _, _, rfl, hR, kF, k1.size, hg⟩
  · by_cases h2 : 256 < k
    · have hk : (N : Int) = 256 := by rw [hN]; unfold nwN; omega
      have hb1 := hb w
      rw [hk] at hb1
      clear hN hb hk
      go_enter Tryz.func47, Tryz.ntmps47
      go_wp2_with fail
      refine hb1.mono ?_
      rintro e w1 ⟨v, rfl, hs, k1⟩
      obtain ⟨hR, g, n, c, rfl, hg⟩ := HK.out w1 v k1 hs
      have kF := k1.alloc (.cells #[.slice (some ⟨g, 0, none⟩) n c, .slice none 0 0, .bool false, .int .i64 0, .int .i64 0, .int .i64 0, .int .i64 0] 74)
      clear HK hs hb1
      go_wp2
      go_ret
      exact ⟨_, _, _, rfl, hR, kF, k1.size, hg⟩
    · have hk : (N : Int) = k := by rw [hN]; unfold nwN; omega
      have hb1 := hb w
      rw [hk] at hb1
      clear hN hb hk
      go_enter Tryz.func47, Tryz.ntmps47
      go_wp2_with fail
      refine hb1.mono ?_
      rintro e w1 ⟨v, rfl, hs, k1⟩
      obtain ⟨hR, g, n, c, rfl, hg⟩ := HK.out w1 v k1 hs
      have kF := k1.alloc (.cells #[.slice (some ⟨g, 0, none⟩) n c, .slice none 0 0, .bool false, .int .i64 0, .int .i64 0, .int .i64 0, .int .i64 0] 74)
      clear HK hs hb1
      go_wp2
      go_ret
      exact ⟨_, _, _, rfl, hR, kF, k1.size, hg⟩

end Go.Proofs.YtinpkfdmellleaaGreat

namespace Go.Proofs.YtinpkfdmellleaaGreat
open Go.RowKit Plain
set_option linter.unusedVariables false

set_option maxRecDepth 100000 in
set_option maxHeartbeats 1000000 in
theorem rreplace_any {w : World} {r gs cap : Nat} {wv : Value} {S : MS} (h : RefIn w r gs cap wv S) : Calls Tryz.prog 89 #[.pointer (some ⟨r, 0, none⟩)] w fun e w' => e = .returned (.tuple #[]) ∧ Rd w w' r gs wv (rp S) := by
  obtain ⟨n, hn⟩ : ∃ n, n = S.las.length := ⟨_, rfl⟩
  have hb := blank_any n (by rw [hn]; exact h.fine.n1) (by rw [hn]; exact h.fine.n2) w
  have c0 := h.c0
  rw [← hn] at c0
  have erp : rp S = ⟨List.replicate n z64, List.replicate n z64, [], false, up S.c 3⟩ := by unfold rp; rw [← hn]
  rw [erp]
  have n1 : 1 ≤ n := by rw [hn]; exact h.fine.n1
  have n2 : n ≤ 256 := by rw [hn]; exact h.fine.n2
  have H := hid h
  clear hn erp h
  go_enter Tryz.func89, Tryz.ntmps89
  go_wp2_with fail
  refine hb.mono ?_
  rintro e w1 ⟨v, rfl, hs, k1⟩
  obtain ⟨g, c, rfl, q1, q2, q3, q4, q5, q6⟩ := hs.h
  have H1 := H.out.kp k1
  have d0 := H1.c0
  have d1 := H1.c1
  have d2 := H1.c2
  have z0 := H1.z 0
  have z1 := H1.z 1
  have z2 := H1.z 2
  have hrg : g ≠ r := by have := H.out.hr; omega
  obtain ⟨W, hW⟩ : ∃ W, W = ((w1.setCell ⟨r, 0, none⟩ (.slice (some ⟨g, 0, none⟩) n c)).setCell ⟨r, 1, none⟩ (.slice none 0 0)).setCell ⟨r, 2, none⟩ (.bool false) := ⟨_, rfl⟩
  have kW : Sp [r] w1 W := by rw [hW]; exact (((Sp.refl [r] w1).set r 0 (by simp) _).set r 1 (by simp) _).set r 2 (by simp) _
  have hgT : g ∉ [r] := by simpa using hrg
  have M3 : RefIn W r g c (.slice none 0 0) ⟨List.replicate n z64, List.replicate n z64, [], false, S.c⟩ := by
    refine RefIn.fresh (Nat.lt_of_lt_of_le H1.hr kW.size) (Nat.lt_of_lt_of_le q4 kW.size) ?_ ?_ ?_ S.c (fun j hj => ?_) (fun o => (by rw [hW]; simp [World.frozen?_setCell, H1.z o])) (fun i hi => kW.held (q5 i hi) hgT) (fun i => (kW.frozen q4 hgT i).trans (q6 i)) q1 q2 hrg n1 n2
    · rw [hW, cell_off _ _ _ _ _ (by omega), cell_off _ _ _ _ _ (by omega)]; exact World.cell?_setCell_same _ _ _ d0
    · rw [hW, cell_off _ _ _ _ _ (by omega)]; exact World.cell?_setCell_same _ _ _ (by rw [cell_off _ _ _ _ _ (by omega)]; exact d1)
    · rw [hW]; exact World.cell?_setCell_same _ _ _ (by rw [cell_off _ _ _ _ _ (by omega), cell_off _ _ _ _ _ (by omega)]; exact d2)
    · rw [hW, cell_off _ _ _ _ _ (by omega), cell_off _ _ _ _ _ (by omega), cell_off _ _ _ _ _ (by omega)]; exact H1.cn j hj
  have SS : Sp (rblk r gs wv) w W := (k1.sp _).trans kW.rr
  have NN : Nw w (rblk r gs wv) (rblk r g (.slice none 0 0)) := fun t ht => by
    simp [rblk, Value.ownBlock] at ht
    rcases ht with rfl | rfl
    · exact .inl (by simp [rblk])
    · exact .inr q3
  have HW := hid hW
  have HSS := hid SS
  have HNN := hid NN
  clear hW kW hs q5 q6 H H1 SS NN hb
  go_wp2_with fail
  have hW' : ((w1.setCell ⟨r, 0, none⟩ (.slice (some ⟨g, 0, none⟩) n c)).setCell ⟨r, 1, none⟩ (.slice none 0 0)).setCell ⟨r, 2, none⟩ (.bool false) = W := HW.out.symm
  rw [hW']
  clear hW' HW d0 d1 d2 z0 z1 z2
  have cc4 := M3.cn 3 (by omega)
  have zz4 := M3.z 6
  try simp only at cc4
  have HM3 := hid M3
  have hwp := wrap_up ((⟨List.replicate n z64, List.replicate n z64, [], false, S.c⟩ : MS).c 3)
  try simp only at hwp
  obtain ⟨C1, hC1⟩ : ∃ C1, C1 = wrap64 ((⟨List.replicate n z64, List.replicate n z64, [], false, S.c⟩ : MS).c 3 + 1) := ⟨_, rfl⟩
  try simp only at hC1
  rw [← hC1] at hwp
  have HC1 := hid hC1
  obtain ⟨C0, hC0⟩ : ∃ C0, C0 = (⟨List.replicate n z64, List.replicate n z64, [], false, S.c⟩ : MS).c 3 := ⟨_, rfl⟩
  try simp only at hC0
  rw [← hC0] at cc4 hwp HC1
  have HC0 := hid hC0
  clear hC1 hC0 M3
  go_wp2_with fail
  go_region
  have M5 := (HM3.out.kp (Kp.refl W).drew).count 3 (by omega)
  have S5 : Sp [r] W (W.drew.setCell ⟨r, 3 + 3, none⟩ (.int .i64 C1)) := ((Kp.refl W).drew.sp [r]).trans ((Sp.refl [r] _).set r _ (by simp) _)
  rw [show wrap64 ((⟨List.replicate n z64, List.replicate n z64, [], false, S.c⟩ : MS).c 3 + 1) = C1 from by rw [HC1.out, HC0.out]] at M5
  go_wp2
  go_end0
  exact ⟨rfl, _, _, _, M5, HSS.out.trans S5.rr, HNN.out⟩
set_option maxRecDepth 100000 in
set_option maxHeartbeats 1000000 in
theorem rflush_any {w : World} {r gs cap : Nat} {wv : Value} {S : MS} (h : RefIn w r gs cap wv S) : Calls Tryz.prog 115 #[.pointer (some ⟨r, 0, none⟩)] w fun e w' => e = .returned (.int .i64 (flE S)) ∧ Rd w w' r gs wv (fl S) := by
  cases hd : S.dead with
  | true =>
    rw [show flE S = 22 from if_pos hd, show fl S = S from if_pos hd]
    have c2 := h.c2
    rw [hd] at c2
    have hR : Rd w w r gs wv S := ⟨gs, cap, wv, h, Sp.refl _ _, Nw.refl _ _⟩
    clear h
    go_enter Tryz.func115, Tryz.ntmps115
    go_wp2
    go_ret
    exact ⟨rfl, hR⟩
  | false =>
    rw [show flE S = 0 from if_neg (by simp [hd]), show fl S = ⟨S.now, pl S.las S.row, [], S.dead, up S.c 2⟩ from if_neg (by simp [hd])]
    have c2 := h.c2
    rw [hd] at c2
    obtain ⟨a, cc, rfl, hn1, hn2⟩ := h.wl
    obtain ⟨n, hn⟩ : ∃ n, n = S.row.length := ⟨_, rfl⟩
    rw [← hn] at h hn1 ⊢
    have HN := hid hn
    have H := hid h
    clear hn h
    go_enter Tryz.func115, Tryz.ntmps115
    go_wp2_with fail
    clear c2
    go_loopw [3] (fun i wr => ∃ k : Nat, k ≤ n ∧ i = .int .i64 k ∧ Hid (RefIn wr r gs cap (.slice a n cc) ⟨S.now, pl S.las (S.row.take k), S.row, S.dead, S.c⟩) ∧ Hid (Sp [gs] w wr)) (fun i _ => n - (intOf i).toNat)
    case atStart => exact ⟨0, by omega, by go_num, H, Sp.refl _ _⟩
    case round =>
      clear H
      obtain ⟨k, hk, rfl, HM, HS⟩ := hrel
      have c1 := HM.out.c1
      by_cases hlt : k < n
      · obtain ⟨g, c', hv, hat⟩ := HM.out.wat (show 0 < S.row.length by rw [← HN.out]; omega)
        simp only at hv hat
        obtain rfl : a = some ⟨g, 0, none⟩ := by simp only [Value.slice.injEq] at hv; exact hv.1
        have hks : k < S.row.length := by rw [← HN.out]; exact hlt
        obtain ⟨d0, d1⟩ := hat k hks
        have hpt := pl_take S.las S.row k hks
        have hpb := HM.out.fine.br (S.row.getD k (0, noS)) (by rw [List.getD_eq_getElem?_getD, List.getElem?_eq_getElem hks]; exact List.getElem_mem hks)
        obtain ⟨p, hp⟩ : ∃ p, p = S.row.getD k (0, noS) := ⟨_, rfl⟩
        rw [← hp] at d0 d1 hpt hpb
        obtain ⟨x, y⟩ := p
        simp only at d0 d1 hpt hpb
        have M5 := HM.out.sector x hpb.1 y hpb.2
        simp only at M5
        rw [← hpt] at M5
        have c0 := HM.out.c0
        have cs := HM.out.s x hpb.1
        have zs := HM.out.sz x
        have kc1 := HM.out.k1
        have kc2 := HM.out.k2
        simp only at c0 kc1
        obtain ⟨m, hm⟩ : ∃ m, m = (pl S.las (S.row.take k)).length := ⟨_, rfl⟩
        rw [← hm] at c0 kc1
        have hxm : (x : Int) < (m : Int) := by rw [hm]; have := hpb.1; omega
        have hxl := hpb.1
        have hyl := hpb.2
        have hRb := HM.out.hr
        obtain ⟨cv, hcv⟩ : ∃ cv, cv = Value.string ((pl S.las (S.row.take k)).getD x noS) := ⟨_, rfl⟩
        rw [show some (Value.string ((({ now := S.now, las := pl S.las (List.take k S.row), row := S.row, dead := S.dead, c := S.c } : MS).las).getD x noS)) = some cv from by rw [hcv]] at cs
        have HPT := hid hpt
        clear hp hv hat hpt hpb hm hcv M5
        have q1 := kpw_cell c0
        have q2 := kpw_cell c1
        have q3 := kpw_cell d0
        have q4 := kpw_cell d1
        have hkn : (k : Int) < (n : Int) := by omega
        go_wp2_with fail
        refine wp_region_tailc2 rfl (by kernel_rfl) (by kernel_rfl) (by kernel_rfl) ?_
        simp only [List.dropLast]
        repeat (first
          | go_big_quiet_skip
          | (go_big_quiet_want; go_big_quiet_op; go_big_quiet_on))
        refine wpQuiet_nil ?_
        rintro w9 ⟨q, hp9⟩
        have kD : Kp wr w9 := by rw [hp9]; exact kpw_kp wr q
        have M9 := HM.out.kp kD
        have M5 := M9.sector x hxl y hyl
        simp only at M5
        rw [← HPT.out] at M5
        have S5 : Sp [gs] w (w9.setCell ⟨gs, x, none⟩ (.string y)) := (HS.out.trans (kD.sp [gs])).set gs x (by simp) _
        have cs9 := M9.s x hxl
        have zs9 := M9.sz x
        have HM5 := hid M5
        have HS5 := hid S5
        clear hp9 q1 q2 q3 q4 M9 M5 S5 HM HS kD
        go_wp2
        go_roundw
        case rel => exact ⟨k + 1, by omega, by go_num, HM5, HS5⟩
        case measure => simp [intOf]; omega
      · obtain rfl : k = n := by omega
        rw [show S.row.take k = S.row by rw [HN.out, List.take_length]] at HM
        have hkn : ¬ (k : Int) < (k : Int) := by omega
        have z1 := HM.out.z 1
        have M3 := HM.out.row (Sp.refl _ _) (.slice none 0 0) [] (World.ownsRow_nil _ _ _ _) (fun g hg => by cases hg) (fun p hp => by cases hp)
        obtain ⟨W, hW⟩ : ∃ W, W = wr.setCell ⟨r, 1, none⟩ (.slice none 0 0) := ⟨_, rfl⟩
        rw [← hW] at M3
        have SW : Sp (rblk r gs (.slice a k cc)) w W := by rw [hW]; exact HS.out.rg.trans ((Sp.refl [r] _).set r 1 (by simp) _).rr
        simp only at M3
        have HSW := hid SW
        have HW := hid hW
        have HM3 := hid M3
        clear hW SW M3 HM HS
        go_wp2_with fail
        rw [show wr.setCell ⟨r, 1, none⟩ (.slice none 0 0) = W from HW.out.symm]
        clear HW z1 c1
        have M3 := HM3.out
        clear HM3
        have cc4 := M3.cn 2 (by omega)
        have zz4 := M3.z 5
        try simp only at cc4
        have HM3 := hid M3
        have hwp := wrap_up ((⟨S.now, pl S.las S.row, [], S.dead, S.c⟩ : MS).c 2)
        try simp only at hwp
        obtain ⟨C1, hC1⟩ : ∃ C1, C1 = wrap64 ((⟨S.now, pl S.las S.row, [], S.dead, S.c⟩ : MS).c 2 + 1) := ⟨_, rfl⟩
        try simp only at hC1
        rw [← hC1] at hwp
        have HC1 := hid hC1
        obtain ⟨C0, hC0⟩ : ∃ C0, C0 = (⟨S.now, pl S.las S.row, [], S.dead, S.c⟩ : MS).c 2 := ⟨_, rfl⟩
        try simp only at hC0
        rw [← hC0] at cc4 hwp HC1
        have HC0 := hid hC0
        clear hC1 hC0 M3
        go_wp2_with fail
        go_region
        have M5 := (HM3.out.kp (Kp.refl W).drew).count 2 (by omega)
        have S5 : Sp [r] W (W.drew.setCell ⟨r, 3 + 2, none⟩ (.int .i64 C1)) := ((Kp.refl W).drew.sp [r]).trans ((Sp.refl [r] _).set r _ (by simp) _)
        rw [show wrap64 ((⟨S.now, pl S.las S.row, [], S.dead, S.c⟩ : MS).c 2 + 1) = C1 from by rw [HC1.out, HC0.out]] at M5
        go_wp2
        go_ret
        rw [hd] at M5
        exact ⟨rfl, _, _, _, M5, HSW.out.trans S5.rr, nw_rnone _ _ _ _⟩

end Go.Proofs.YtinpkfdmellleaaGreat

namespace Go.Proofs.YtinpkfdmellleaaGreat
open Go.RowKit Plain
set_option linter.unusedVariables false

theorem wpList_append_pcl {w : World} {ops : Array Oper} {rest : List Oper} {o : Oper} {a : Act} {Q : Exit → Act → World → Prop} (hgd : o.guard = none) (s x : Operand)
    (ho : o.op = .call { callee := .builtin .append, args := #[s, x], argTypes := #[71, 71] }) (v : Value) (r : List (Nat × ByteArray)) (hs : a.eval s = v) (w0 : World) (hk : Kp w0 w) (hq : w.ownsRow w0.heap.size 156 2 v r.length (pcs r)) (N c : Nat) (p : Nat × ByteArray) (hx : a.eval x = .slice (some ⟨N, 0, none⟩) 1 c)
    (d0 : w.cell? ⟨N, 0, none⟩ = some (.int .i64 (p.1 : Int))) (d1 : w.cell? ⟨N, 1, none⟩ = some (.string p.2)) (hb : r.length < 1000000)
    (h : ∀ v' w', w'.ownsRow w0.heap.size 156 2 v' (r ++ [p]).length (pcs (r ++ [p])) → Kp w0 w' → wpList Tryz.prog ops Q rest (a.put o.dst v') w') : wpList Tryz.prog ops Q (o :: rest) a w := by
  obtain ⟨i, hi, hzz⟩ := Option.map_eq_some_iff.1 info87
  simp only [Prod.mk.injEq] at hzz
  obtain ⟨hz0, hs0, hby⟩ := hzz
  refine wpList_append_own_at (P := Tryz.prog) w hgd s x 71 ho w0.heap.size 156 i _ 2 24 Tryz.underlying71 hi hz0 hs0 hby rfl (by omega) v r.length (pcs r) hs hq ⟨N, 0, none⟩ 1 c [.int .i64 (p.1 : Int), .string p.2] hx rfl (fun j u hu => ?_) (fun u hu => ?_) (by unfold maxLen; omega) (by omega) hk.size (fun v' w' h1 h2 _ h4 => h v' w' ?_ (hk.grown h2 (fun g hg => (hq.lt g hg).1)))
  · have hj := (List.getElem?_eq_some_iff.1 hu).1
    have : j = 0 ∨ j = 1 := by simp at hj; omega
    rw [Addr.add_mid]
    rcases this with rfl | rfl
    · simp at hu; subst hu; exact d0
    · simp at hu; subst hu; exact d1
  · simp at hu
    rcases hu with rfl | rfl <;> rfl
  · rw [List.length_append, pcs_app]
    exact h1

end Go.Proofs.YtinpkfdmellleaaGreat

namespace Go.Proofs.YtinpkfdmellleaaGreat
open Go.RowKit Plain
set_option linter.unusedVariables false

/-- the same but for what a member has now. -/
theorem RefIn.st {w : World} {r gs cap : Nat} {wv : Value} {S S' : MS} (h : RefIn w r gs cap wv S) (e1 : S'.las = S.las) (e2 : S'.row = S.row) (e3 : S'.dead = S.dead) (e4 : S'.c = S.c) (f : Fine S') : RefIn w r gs cap wv S' := by
  obtain ⟨n1, l1, r1, d1, c1⟩ := S
  obtain ⟨n2, l2, r2, d2, c2⟩ := S'
  simp only at e1 e2 e3 e4
  subst e1 e2 e3 e4
  exact ⟨h.hr, h.hg, h.c0, h.c1, h.c2, h.cn, h.z, h.s, h.sz, h.q, h.k1, h.k2, h.n1, h.n2, f⟩
theorem tk_stop (f : Nat → Bool) : ∀ (r : List (Nat × ByteArray)) (a k : Nat), (∀ j, a + k ≤ j → f j = false) → tk (fun k _ => f k) a r = tk (fun k _ => f k) a (r.take k)
  | [], a, k, _ => by simp
  | p :: r, a, 0, h => by
    have := tk_stop f r (a + 1) 0 (fun j hj => h j (by omega))
    simp only [List.take_zero, tk] at this ⊢
    simp [h a (by omega), this]
  | p :: r, a, k + 1, h => by
    have := tk_stop f r (a + 1) k (fun j hj => h j (by omega))
    simp only [List.take_succ_cons, tk] at this ⊢
    rw [this]
set_option maxRecDepth 100000 in
set_option maxHeartbeats 1000000 in
theorem rcrash_any {w : World} {r gs cap : Nat} {wv v : Value} {S : MS} (h : RefIn w r gs cap wv S) (hR : Right S) (ks : List Nat) (hk : KeIn w v ks) (hf : ∀ g off n c, v = .slice (some ⟨g, off, none⟩) n c → 0 < n → g ≠ gs) (hrl : S.row.length < 1000000) :
    Calls Tryz.prog 88 #[.pointer (some ⟨r, 0, none⟩), v] w fun e w' => e = .returned (.tuple #[]) ∧ Rd w w' r gs wv (cr S (bit ks)) := by
  cases hd : S.dead with
  | true =>
    have hrow := hR.gone hd
    have hR : Rd w w r gs wv (cr S (bit ks)) := ⟨gs, cap, wv, h.st (by unfold cr; rw [hrow]; rfl) (by rw [hrow]; rfl) rfl rfl (h.fine.cr _), Sp.refl _ _, Nw.refl _ _⟩
    have c2 := h.c2
    rw [hd] at c2
    obtain ⟨a1, cap1, rfl, _⟩ := hk.h
    clear h hk hf
    go_enter Tryz.func88, Tryz.ntmps88
    go_wp2
    refine bodyPost_ret (results_none rfl _ _ _) rfl ?_
    exact ⟨rfl, hR⟩
  | false =>
    obtain ⟨L, hL⟩ : ∃ L, L = fun m => pl S.las (tk (fun k _ => bit ks k) 0 (S.row.take m)) := ⟨_, rfl⟩
    have ecr : cr S (bit ks) = ⟨L S.row.length, L S.row.length, [], S.dead, S.c⟩ := by rw [hL]; unfold cr; simp only [List.take_length]
    have eL0 : L 0 = S.las := by rw [hL]; rfl
    have eLn : ∀ m, (L m).length = S.las.length := fun m => by rw [hL]; exact pl_len _ _
    have eLs : ∀ m, ks.length ≤ m / 64 → L m = L S.row.length := fun m hm => by
      rw [hL]
      simp only [List.take_length]
      rw [tk_stop (bit ks) S.row 0 m (fun j hj => by
        have : m / 64 ≤ j / 64 := Nat.div_le_div_right (by omega)
        unfold bit
        rw [decide_eq_false (by omega)]
        rfl)]
    have eL1 : ∀ m, m < S.row.length → L (m + 1) = if bit ks m then (L m).set (S.row.getD m (0, noS)).1 (S.row.getD m (0, noS)).2 else L m := fun m hm => by
      rw [hL]
      simp only
      rw [tk_take _ _ _ hm]
      split
      · exact pl_one _ _ _
      · rfl
    have fcr := h.fine.cr (bit ks)
    rw [ecr] at fcr ⊢
    have c2 := h.c2
    rw [hd] at c2
    obtain ⟨a, cc, rfl, hn1, hn2⟩ := h.wl
    obtain ⟨n, hn⟩ : ∃ n, n = S.row.length := ⟨_, rfl⟩
    rw [← hn] at h hn1 hrl eL1 eLs fcr ⊢
    have HN := hid hn
    have HL0 := hid eL0
    have HL1 := hid eL1
    have HLs := hid eLs
    have HLn := hid eLn
    have HF := hid fcr
    obtain ⟨a1, cap1, rfl, y1, y1b, _⟩ := hk.h
    have H : Hid (RefIn w r gs cap (.slice a n cc) ⟨S.now, L 0, S.row, S.dead, S.c⟩) := by
      have : RefIn w r gs cap (.slice a n cc) ⟨S.now, L 0, S.row, S.dead, S.c⟩ := h.st eL0 rfl rfl rfl ⟨by simp only [eL0]; exact h.fine.n1, by simp only [eL0]; exact h.fine.n2, by simp only [eL0]; exact h.fine.nn, h.fine.bn, by simp only [eL0]; exact h.fine.bl, by simp only [eL0]; exact h.fine.br⟩
      exact this
    have HK := hid hk
    have HFF := hid hf
    obtain ⟨kn, hkn⟩ : ∃ kn, kn = ks.length := ⟨_, rfl⟩
    rw [← hkn] at HK y1 HFF HLs ⊢
    have HKN := hid hkn
    clear hn h eL0 eL1 eLs eLn fcr hk hf ecr hL hkn
    go_enter Tryz.func88, Tryz.ntmps88
    go_wp2_with fail
    clear c2
    go_loopw [4] (fun i wr => ∃ k : Nat, k ≤ n ∧ i = .int .i64 k ∧ Hid (RefIn wr r gs cap (.slice a n cc) ⟨S.now, L k, S.row, S.dead, S.c⟩) ∧ Hid (Sp [gs] w wr)) (fun i _ => n - (intOf i).toNat)
    case atStart => exact ⟨0, by omega, by go_num, H, Sp.refl _ _⟩
    case round =>
      clear H
      obtain ⟨k, hk, rfl, HM, HS⟩ := hrel
      have e1 : (k : Int).tdiv 64 = ((k / 64 : Nat) : Int) := by rw [Int.tdiv_eq_ediv_of_nonneg (by omega)]; omega
      have e2 : (k : Int) / 64 = ((k / 64 : Nat) : Int) := by omega
      have e3 : (k : Int).tmod 64 = ((k % 64 : Nat) : Int) := by rw [Int.tmod_eq_emod_of_nonneg (by omega)]; omega
      have e4 : (k : Int) % 64 = ((k % 64 : Nat) : Int) := by omega
      obtain ⟨q, hq⟩ : ∃ q, q = k / 64 := ⟨_, rfl⟩
      obtain ⟨rr, hr⟩ : ∃ rr, rr = k % 64 := ⟨_, rfl⟩
      have hr64 : rr < 64 := by omega
      rw [← hq] at e1 e2
      rw [← hr] at e3 e4
      have c1 := HM.out.c1
      by_cases hlt : k < n
      · have hkn : (k : Int) < (n : Int) := by omega
        by_cases hqn : q < kn
        · have hqk : (q : Int) < (kn : Int) := by omega
          have hK2 := HK.out.sp HS.out (fun t ht g off n c he hn => by simp at ht; subst ht; exact HFF.out g off n c he hn)
          obtain ⟨a2, cap2, ee, _, _, h2⟩ := hK2.h
          obtain ⟨gk, off, hak, h3⟩ := h2 (by rw [← HKN.out]; omega)
          simp only [Value.slice.injEq] at ee
          obtain ⟨rfl, _, _⟩ := ee
          subst hak
          have ck := h3 q (by rw [← HKN.out]; exact hqn)
          have hX := hK2.z (ks.getD q 0) (by rw [List.getD_eq_getElem?_getD, List.getElem?_eq_getElem (by rw [← HKN.out]; exact hqn)]; exact List.getElem_mem _)
          have hbit : bit ks k = decide (ks.getD q 0 / 2 ^ rr % 2 = 1) := by
            unfold bit
            rw [← hq, ← hr, ← HKN.out, decide_eq_true hqn]
            rfl
          obtain ⟨X, hXX⟩ : ∃ X, X = ks.getD q 0 := ⟨_, rfl⟩
          rw [← hXX] at ck hX hbit
          obtain ⟨wo, hwo⟩ : ∃ wo, wo = wr := ⟨_, rfl⟩
          rw [← hwo] at HM HS ck c1 ⊢
          have HX := hid hX
          have HB := hid hbit
          clear hwo hK2 h2 h3 hXX hX hbit hq hr
          go_wp2_with fail
          go_loopw [5, 6] (fun x j wr => ∃ (m Y : Nat), m ≤ rr ∧ j = .int .i64 m ∧ x = .int .u64 Y ∧ Hid (Y = X / 2 ^ m) ∧ wr = wo) (fun _ j _ => rr - (intOf j).toNat)
          case atStart => exact ⟨0, X, by omega, by go_num, rfl, by show X = X / 2 ^ 0; simp, rfl⟩
          case round =>
            obtain ⟨m, Y, hm, rfl, rfl, HY, rfl⟩ := hrel
            have hY : Y < 18446744073709551616 := by rw [HY.out]; exact Nat.lt_of_le_of_lt (Nat.div_le_self _ _) HX.out
            by_cases hmr : m < rr
            · have hmr2 : (m : Int) < (rr : Int) := by omega
              have f1 : (Y : Int).tdiv 2 = ((Y / 2 : Nat) : Int) := by rw [Int.tdiv_eq_ediv_of_nonneg (by omega)]; omega
              have f2 : (Y : Int) / 2 = ((Y / 2 : Nat) : Int) := by omega
              have HY2 : Hid (Y / 2 = X / 2 ^ (m + 1)) := by
                show Y / 2 = X / 2 ^ (m + 1)
                rw [HY.out, Nat.pow_succ, Nat.div_div_eq_div_mul]
              have hY2 : Y / 2 < 18446744073709551616 := by omega
              obtain ⟨Z, hZ⟩ : ∃ Z, Z = Y / 2 := ⟨_, rfl⟩
              rw [← hZ] at f1 f2 HY2 hY2
              clear hZ HY
              go_wp2
              go_roundw
              case rel => exact ⟨m + 1, Z, by omega, by go_num, by go_num, HY2, by first | rfl | trivial⟩
              case measure => simp [intOf]; omega
            · obtain rfl : m = rr := by omega
              have hmr2 : ¬ (m : Int) < (m : Int) := by omega
              have f1 : (Y : Int).tmod 2 = ((Y % 2 : Nat) : Int) := by rw [Int.tmod_eq_emod_of_nonneg (by omega)]; omega
              have f2 : (Y : Int) % 2 = ((Y % 2 : Nat) : Int) := by omega
              have HB2 : Hid (bit ks k = decide (Y % 2 = 1)) := by
                show bit ks k = decide (Y % 2 = 1)
                rw [HB.out, HY.out]
              have hZ2 : Y % 2 < 2 := by omega
              obtain ⟨Z, hZ⟩ : ∃ Z, Z = Y % 2 := ⟨_, rfl⟩
              rw [← hZ] at f1 f2 HB2 hZ2
              clear hZ HY HB
              obtain ⟨g, c', hv, hat⟩ := HM.out.wat (show 0 < S.row.length by rw [← HN.out]; omega)
              simp only at hv hat
              obtain rfl : a = some ⟨g, 0, none⟩ := by simp only [Value.slice.injEq] at hv; exact hv.1
              have hks : k < S.row.length := by rw [← HN.out]; exact hlt
              obtain ⟨d0, d1⟩ := hat k hks
              have hpt := HL1.out k hlt
              have hpb := HM.out.fine.br (S.row.getD k (0, noS)) (by rw [List.getD_eq_getElem?_getD, List.getElem?_eq_getElem hks]; exact List.getElem_mem hks)
              obtain ⟨p, hp⟩ : ∃ p, p = S.row.getD k (0, noS) := ⟨_, rfl⟩
              rw [← hp] at d0 d1 hpt hpb
              obtain ⟨x, y⟩ := p
              simp only at d0 d1 hpt hpb
              clear hp hv hat
              by_cases hz : Z = 1
              · have hz2 : ((Z : Int) == 1) = true := by simp; omega
                rw [HB2.out, decide_eq_true hz, if_pos rfl] at hpt
                have c0 := HM.out.c0
                have kc1 := HM.out.k1
                have kc2 := HM.out.k2
                simp only at c0 kc1
                have hxl : x < (L k).length := hpb.1
                obtain ⟨M, hM⟩ : ∃ M, M = (L k).length := ⟨_, rfl⟩
                rw [← hM] at c0 kc1
                have hxm : (x : Int) < (M : Int) := by rw [hM]; omega
                have hyl := hpb.2
                have HPT := hid hpt
                clear hpt hpb hM hz HB2
                have q1 := kpw_cell c0
                have q2 := kpw_cell c1
                have q3 := kpw_cell d0
                have q4 := kpw_cell d1
                go_wp2_with fail
                refine wp_region_tailc2 rfl (by kernel_rfl) (by kernel_rfl) (by kernel_rfl) ?_
                simp only [List.dropLast]
                repeat (first
                  | go_big_quiet_skip
                  | (go_big_quiet_want; go_big_quiet_op; go_big_quiet_on))
                refine wpQuiet_nil ?_
                rintro w9 ⟨q, hp9⟩
                have kD : Kp wr w9 := by rw [hp9]; exact kpw_kp wr q
                have M9 := HM.out.kp kD
                have M5 := M9.sector x hxl y hyl
                simp only at M5
                rw [← HPT.out] at M5
                have S5 : Sp [gs] w (w9.setCell ⟨gs, x, none⟩ (.string y)) := (HS.out.trans (kD.sp [gs])).set gs x (by simp) _
                have cs9 := M9.s x hxl
                have zs9 := M9.sz x
                have HM5 := hid M5
                have HS5 := hid S5
                clear hp9 q1 q2 q3 q4 M9 M5 S5 HM HS kD
                go_wp2
                go_roundw
                case rel => first | exact ⟨k + 1, by omega, by go_num, HM5, HS5⟩ | (rw [hd] at HM5; exact ⟨k + 1, by omega, by go_num, HM5⟩)
                case measure => simp [intOf]; omega
              · have hz2 : ((Z : Int) == 1) = false := by simp; omega
                rw [HB2.out, decide_eq_false hz] at hpt
                simp only [Bool.false_eq_true, if_false] at hpt
                rw [← hpt] at HM
                clear hpt hpb hz HB2
                go_wp2
                go_roundw
                case rel => exact ⟨k + 1, by omega, by go_num, HM, HS⟩
                case measure => simp [intOf]; omega
        · have hqk : ¬ (q : Int) < (kn : Int) := by omega
          have hLe := HLs.out k (by omega)
          rw [hLe] at HM
          clear hq hr hLe
          have z1 := HM.out.z 1
          have M3 := HM.out.row (Sp.refl _ _) (.slice none 0 0) [] (World.ownsRow_nil _ _ _ _) (fun g hg => by cases hg) (fun p hp => by cases hp)
          have S3 : Sp (rblk r gs (.slice a n cc)) w (wr.setCell ⟨r, 1, none⟩ (.slice none 0 0)) := HS.out.rg.trans ((Sp.refl [r] _).set r 1 (by simp) _).rr
          simp only at M3
          have HM3 := hid M3
          have HS3 := hid S3
          clear M3 S3 HM HS
          go_wp2
          go_end0
          refine ⟨rfl, gs, cap, _, HM3.out.st rfl rfl hd.symm rfl (by rw [← hd]; exact HF.out), HS3.out, nw_rnone _ _ _ _⟩
      · obtain rfl : k = n := by omega
        have hkn : ¬ (k : Int) < (k : Int) := by omega
        have z1 := HM.out.z 1
        have M3 := HM.out.row (Sp.refl _ _) (.slice none 0 0) [] (World.ownsRow_nil _ _ _ _) (fun g hg => by cases hg) (fun p hp => by cases hp)
        have S3 : Sp (rblk r gs (.slice a k cc)) w (wr.setCell ⟨r, 1, none⟩ (.slice none 0 0)) := HS.out.rg.trans ((Sp.refl [r] _).set r 1 (by simp) _).rr
        simp only at M3
        have HM3 := hid M3
        have HS3 := hid S3
        clear M3 S3 HM HS
        go_wp2
        go_end0
        refine ⟨rfl, gs, cap, _, HM3.out.st rfl rfl hd.symm rfl (by rw [← hd]; exact HF.out), HS3.out, nw_rnone _ _ _ _⟩

end Go.Proofs.YtinpkfdmellleaaGreat

namespace Go.Proofs.YtinpkfdmellleaaGreat
open Go.RowKit Plain
set_option linter.unusedVariables false

/-! ### the document's members, of the call's own -/
def Rw (w0 w : World) (r : Nat) (T : List Nat) (S : MS) : Prop := ∃ gs cap wv, T = rblk r gs wv ∧ RefIn w r gs cap wv S ∧ ∀ t, t ∈ T → w0.heap.size ≤ t
theorem OL.rw : OL Rw := ⟨fun ⟨gs, cap, wv, e, h, _⟩ => by rw [e]; exact h.low, fun ⟨gs, cap, wv, e, h, hn⟩ => hn, fun ⟨gs, cap, wv, e, h, hn⟩ k hT => ⟨gs, cap, wv, e, h.sp k (by rw [← e]; exact hT), hn⟩⟩
theorem Rd.nz {w0 w w' : World} {r gs : Nat} {wv : Value} {S : MS} (K : Kp w0 w) (hn : ∀ t, t ∈ rblk r gs wv → w0.heap.size ≤ t) (h : Rd w w' r gs wv S) : Nz Rw w0 w w' r (rblk r gs wv) S := by
  obtain ⟨gs', cap', wv', h1, h2, h3⟩ := h
  refine ⟨_, ⟨gs', cap', wv', rfl, h1, fun t ht => ?_⟩, h2, h3⟩
  rcases h3 t ht with h5 | h5
  · exact hn t h5
  · exact Nat.le_trans K.size h5
theorem rw_new (k : Int) (w0 w : World) (K : Kp w0 w) : Calls Tryz.prog 47 #[.int .i64 k] w fun e w' => ∃ r T, e = .returned (.pointer (some ⟨r, 0, none⟩)) ∧ Rw w0 w' r T (nw (nwN k)) ∧ Kp w w' ∧ (∀ t, t ∈ T → w.heap.size ≤ t) := by
  refine (rnew_any k w).mono ?_
  rintro e w' ⟨r, gs, cap, rfl, h1, h2, h3, h4⟩
  have hT : ∀ t, t ∈ rblk r gs (.slice none 0 0) → w.heap.size ≤ t := fun t ht => by
    simp only [rblk, Value.ownBlock, List.mem_cons] at ht
    rcases ht with rfl | rfl | ht
    · exact h3
    · exact h4
    · cases ht
  exact ⟨r, _, rfl, ⟨gs, cap, _, rfl, h1, fun t ht => Nat.le_trans K.size (hT t ht)⟩, h2, hT⟩
theorem rw_put {w0 w : World} {r : Nat} {T : List Nat} {S : MS} (h : Rw w0 w r T S) (K : Kp w0 w) (k : Int) (s : ByteArray) (hr : S.row.length < 1000000) : Calls Tryz.prog 52 #[.pointer (some ⟨r, 0, none⟩), .int .i64 k, .string s] w fun e w' => e = .returned (.int .i64 (wrE S k s)) ∧ Nz Rw w0 w w' r T (wr S k s) := by
  obtain ⟨gs, cap, wv, rfl, h1, h2⟩ := h
  exact (put_any h1 k s hr).mono fun e w' ⟨he, hm⟩ => ⟨he, hm.nz K h2⟩
theorem rw_read {w0 w : World} {r : Nat} {T : List Nat} {S : MS} (h : Rw w0 w r T S) (K : Kp w0 w) (k : Int) (hR : Right S) : Calls Tryz.prog 119 #[.pointer (some ⟨r, 0, none⟩), .int .i64 k] w fun e w' => e = .returned (.tuple #[.string (rdS S k), .int .i64 (rcE S k)]) ∧ Nz Rw w0 w w' r T (rd S k) := by
  obtain ⟨gs, cap, wv, rfl, h1, h2⟩ := h
  exact (rread_any h1 k hR).mono fun e w' ⟨he, hm⟩ => ⟨he, hm.nz K h2⟩
theorem rw_flush {w0 w : World} {r : Nat} {T : List Nat} {S : MS} (h : Rw w0 w r T S) (K : Kp w0 w) : Calls Tryz.prog 115 #[.pointer (some ⟨r, 0, none⟩)] w fun e w' => e = .returned (.int .i64 (flE S)) ∧ Nz Rw w0 w w' r T (fl S) := by
  obtain ⟨gs, cap, wv, rfl, h1, h2⟩ := h
  exact (rflush_any h1).mono fun e w' ⟨he, hm⟩ => ⟨he, hm.nz K h2⟩
theorem rw_fail {w0 w : World} {r : Nat} {T : List Nat} {S : MS} (h : Rw w0 w r T S) (K : Kp w0 w) : Calls Tryz.prog 18 #[.pointer (some ⟨r, 0, none⟩)] w fun e w' => e = .returned (.tuple #[]) ∧ Nz Rw w0 w w' r T (fa S) := by
  obtain ⟨gs, cap, wv, rfl, h1, h2⟩ := h
  exact (rfail_any h1).mono fun e w' ⟨he, hm⟩ => ⟨he, hm.nz K h2⟩
theorem rw_replace {w0 w : World} {r : Nat} {T : List Nat} {S : MS} (h : Rw w0 w r T S) (K : Kp w0 w) : Calls Tryz.prog 89 #[.pointer (some ⟨r, 0, none⟩)] w fun e w' => e = .returned (.tuple #[]) ∧ Nz Rw w0 w w' r T (rp S) := by
  obtain ⟨gs, cap, wv, rfl, h1, h2⟩ := h
  exact (rreplace_any h1).mono fun e w' ⟨he, hm⟩ => ⟨he, hm.nz K h2⟩
theorem rw_crash {w0 w : World} {r : Nat} {T : List Nat} {S : MS} (h : Rw w0 w r T S) (K : Kp w0 w) (v : Value) (ks : List Nat) (hk : KeIn w0 v ks) (hR : Right S) (hr : S.row.length < 1000000) : Calls Tryz.prog 88 #[.pointer (some ⟨r, 0, none⟩), v] w fun e w' => e = .returned (.tuple #[]) ∧ Nz Rw w0 w w' r T (cr S (bit ks)) := by
  obtain ⟨gs, cap, wv, rfl, h1, h2⟩ := h
  exact (rcrash_any h1 hR ks (hk.kp K) (hk.off h2 gs (by simp [rblk])) hr).mono fun e w' ⟨he, hm⟩ => ⟨he, hm.nz K h2⟩
theorem rw_dead {w0 w : World} {r : Nat} {T : List Nat} {S : MS} (h : Rw w0 w r T S) : w.cell? ⟨r, 2, none⟩ = some (.bool S.dead) := by
  obtain ⟨gs, cap, wv, rfl, h1, h2⟩ := h
  exact h1.c2

/-! ### the document's bay -/
def lfI : Option Nat → Int
  | none => -1
  | some k => (k : Int)
structure RX (w0 w : World) (r m cap : Nat) (X F : List Nat) (B : BS) : Prop where
  hr : r < w.heap.size
  hm : m < w.heap.size
  c0 : w.cell? ⟨r, 0, none⟩ = some (.slice (some ⟨m, 0, none⟩) B.ms.length cap)
  c1 : w.cell? ⟨r, 1, none⟩ = some (.int .i64 (B.md : Int))
  c2 : w.cell? ⟨r, 2, none⟩ = some (.int .i64 (lfI B.pw))
  z : ∀ o, w.frozen? ⟨r, o, none⟩ = false
  k1 : B.ms.length ≤ cap
  k2 : cap ≤ 9223372036854775807
  pk : ∀ k, B.pw = some k → (k : Int) ≤ 9223372036854775807
  ar : ∀ i, i < B.ms.length → w.cell? ⟨m, i, none⟩ = some (.pointer (some ⟨X.getD i 0, 0, none⟩))
  fam : Fam Rw w0 w X B.ms F
  n1 : r ∉ F
  n2 : m ∉ F
  n3 : r ≠ m
  n4 : w0.heap.size ≤ r
  n5 : w0.heap.size ≤ m
  gd : Gd B
def Dw (w0 w : World) (r : Nat) (T : List Nat) (B : BS) : Prop := ∃ m cap X F, T = r :: m :: F ∧ RX w0 w r m cap X F B
theorem RX.sp {w0 w w' : World} {r m cap : Nat} {X F : List Nat} {B : BS} (h : RX w0 w r m cap X F B) {T : List Nat} (k : Sp T w w') (hT : ∀ t, t ∈ r :: m :: F → t ∉ T) : RX w0 w' r m cap X F B := by
  have hr : r ∉ T := hT r (by simp)
  have hm : m ∉ T := hT m (by simp)
  exact ⟨Nat.lt_of_lt_of_le h.hr k.size, Nat.lt_of_lt_of_le h.hm k.size, k.held h.c0 hr, k.held h.c1 hr, k.held h.c2 hr, fun o => (k.frozen h.hr hr o).trans (h.z o), h.k1, h.k2, h.pk, fun i hi => k.held (h.ar i hi) hm, h.fam.sp OL.rw k (fun t ht => hT t (by simp [ht])), h.n1, h.n2, h.n3, h.n4, h.n5, h.gd⟩
theorem RX.low {w0 w : World} {r m cap : Nat} {X F : List Nat} {B : BS} (h : RX w0 w r m cap X F B) : ∀ t, t ∈ r :: m :: F → t < w.heap.size := fun t ht => by
  simp only [List.mem_cons] at ht
  rcases ht with rfl | rfl | ht
  · exact h.hr
  · exact h.hm
  · exact h.fam.low OL.rw t ht
theorem RX.new {w0 w : World} {r m cap : Nat} {X F : List Nat} {B : BS} (h : RX w0 w r m cap X F B) : ∀ t, t ∈ r :: m :: F → w0.heap.size ≤ t := fun t ht => by
  simp only [List.mem_cons] at ht
  rcases ht with rfl | rfl | ht
  · exact h.n4
  · exact h.n5
  · exact h.fam.new OL.rw t ht
theorem OL.dw : OL Dw := ⟨fun ⟨m, cap, X, F, e, h⟩ => by rw [e]; exact h.low, fun ⟨m, cap, X, F, e, h⟩ => by rw [e]; exact h.new, fun ⟨m, cap, X, F, e, h⟩ k hT => ⟨m, cap, X, F, e, h.sp k (by rw [← e]; exact hT)⟩⟩
/-- its own cells stored anew: the steps made, those left. -/
theorem RX.own {w0 w w' : World} {r m cap : Nat} {X F : List Nat} {B B' : BS} (h : RX w0 w r m cap X F B) (k : Sp [r] w w') (e : B'.ms = B.ms) (c0 : w'.cell? ⟨r, 0, none⟩ = w.cell? ⟨r, 0, none⟩) (c1 : w'.cell? ⟨r, 1, none⟩ = some (.int .i64 (B'.md : Int))) (c2 : w'.cell? ⟨r, 2, none⟩ = some (.int .i64 (lfI B'.pw))) (z : ∀ o, w'.frozen? ⟨r, o, none⟩ = false) (pk : ∀ k, B'.pw = some k → (k : Int) ≤ 9223372036854775807) (gd : Gd B') : RX w0 w' r m cap X F B' := by
  have hmr : m ∉ [r] := by simpa using h.n3.symm
  exact ⟨Nat.lt_of_lt_of_le h.hr k.size, Nat.lt_of_lt_of_le h.hm k.size, by rw [c0, e]; exact h.c0, c1, c2, z, by rw [e]; exact h.k1, h.k2, pk, fun i hi => k.held (h.ar i (by rw [← e]; exact hi)) hmr, by rw [e]; exact h.fam.sp OL.rw k (fun t ht => by simp; rintro rfl; exact h.n1 ht), h.n1, h.n2, h.n3, h.n4, h.n5, gd⟩
theorem RX.atX {w0 w : World} {r m cap : Nat} {X F : List Nat} {B : BS} (h : RX w0 w r m cap X F B) (i : Nat) (hi : i < B.ms.length) : ∃ P, (∀ t, t ∈ P → t ∈ F) ∧ Rw w0 w (X.getD i 0) P (B.ms.getD i noM) ∧ ∀ w' S', Nz Rw w0 w w' (X.getD i 0) P S' → Right S' → S'.row.length ≤ B.g → ∃ F', RX w0 w' r m cap X F' ⟨B.pw, B.md, B.g, B.ms.set i S'⟩ ∧ Sp F w w' ∧ Nw w F F' := by
  obtain ⟨P, p1, p2, p3⟩ := h.fam.at OL.rw noM i hi
  refine ⟨P, p1, p2, fun w' S' hn hr hl => ?_⟩
  obtain ⟨F', q1, q2, q3⟩ := p3 w' S' hn
  have hrF : r ∉ F' := fun ht => by
    rcases q3 r ht with h5 | h5
    · exact h.n1 h5
    · have := h.hr; omega
  have hmF : m ∉ F' := fun ht => by
    rcases q3 m ht with h5 | h5
    · exact h.n2 h5
    · have := h.hm; omega
  have hl2 : (B.ms.set i S').length = B.ms.length := by simp
  have gd := h.gd.put (i : Int) S' hr hl
  exact ⟨F', ⟨Nat.lt_of_lt_of_le h.hr q2.size, Nat.lt_of_lt_of_le h.hm q2.size, by show _ = some (Value.slice _ (B.ms.set i S').length cap); rw [hl2]; exact q2.held h.c0 h.n1, q2.held h.c1 h.n1, q2.held h.c2 h.n1, fun o => (q2.frozen h.hr h.n1 o).trans (h.z o), by show (B.ms.set i S').length ≤ cap; rw [hl2]; exact h.k1, h.k2, h.pk, fun j hj => q2.held (h.ar j (by rw [← hl2]; exact hj)) h.n2, q1, hrF, hmF, h.n3, h.n4, h.n5, gd⟩, q2, q3⟩
theorem RX.at {w0 w : World} {r m cap : Nat} {X F : List Nat} {B : BS} (h : RX w0 w r m cap X F B) {i : Int} (hi : fdE B i = 0) : ∃ P, (∀ t, t ∈ P → t ∈ F) ∧ Rw w0 w (X.getD i.toNat 0) P (bm B i) ∧ ∀ w' S', Nz Rw w0 w w' (X.getD i.toNat 0) P S' → Right S' → S'.row.length ≤ B.g → Nz Dw w0 w w' r (r :: m :: F) (put B i S') := by
  obtain ⟨P, p1, p2, p3⟩ := h.atX i.toNat (bm_mem hi).2.2.1
  refine ⟨P, p1, p2, fun w' S' hn hr hl => ?_⟩
  obtain ⟨F', q1, q2, q3⟩ := p3 w' S' hn hr hl
  exact ⟨r :: m :: F', ⟨m, cap, X, F', rfl, q1⟩, q2.mono (fun t ht => by simp [ht]), nw_more q3⟩
theorem RX.size {w0 w : World} {r m cap : Nat} {X F : List Nat} {B : BS} (h : RX w0 w r m cap X F B) : 1 ≤ B.ms.length ∧ B.ms.length ≤ 32 := ⟨h.gd.n1, h.gd.n2⟩
theorem lf_zero (p : Option Nat) : decide (lfI p = 0) = decide (p = some 0) := by
  cases p with
  | none => rfl
  | some k =>
    by_cases h : k = 0
    · subst h; rfl
    · rw [decide_eq_false (by show ¬ ((k : Int) = 0); omega), decide_eq_false (by intro e; cases e; exact h rfl)]

set_option maxRecDepth 100000 in
theorem rmay_any {w0 w : World} {r m cap : Nat} {X F : List Nat} {B : BS} (h : RX w0 w r m cap X F B) (i : Int) : Calls Tryz.prog 50 #[.pointer (some ⟨r, 0, none⟩), .int .i64 i] w fun e w' => e = .returned (.int .i64 (stE B i)) ∧ w' = w := by
  have c0 := h.c0
  have c2 := h.c2
  obtain ⟨s1, s2⟩ := h.size
  have f1 : fdE B i = if 0 ≤ i ∧ i < B.ms.length then 0 else 11 := rfl
  have l1 := lf_zero B.pw
  obtain ⟨lf, hlf⟩ : ∃ lf, lf = lfI B.pw := ⟨_, rfl⟩
  rw [← hlf] at c2 l1
  obtain ⟨n, hn⟩ : ∃ n, n = B.ms.length := ⟨_, rfl⟩
  rw [← hn] at c0 s1 s2 f1
  by_cases h0 : 0 ≤ i
  · by_cases h1 : i < n
    · rw [if_pos ⟨h0, h1⟩] at f1
      have q1 : ¬ i < 0 := by omega
      have q2 : ¬ (n : Int) ≤ i := by omega
      by_cases hp : B.pw = some 0
      · rw [(st_no f1 hp).1]
        have hl : lf = 0 := by rw [hlf, hp]; rfl
        clear h hn hlf f1 hp l1
        subst hl
        go_enter Tryz.func50, Tryz.ntmps50
        go_wp2
        go_ret
        exact ⟨rfl, rfl⟩
      · rw [(st_yes f1 hp).1]
        rw [decide_eq_false hp] at l1
        have hl : (lf == 0) = false := beq_eq_false_iff_ne.2 (of_decide_eq_false l1)
        clear h hn hlf f1 hp l1
        go_enter Tryz.func50, Tryz.ntmps50
        go_wp2
        go_ret
        exact ⟨rfl, rfl⟩
    · rw [if_neg (fun h => h1 h.2)] at f1
      have q2 : (n : Int) ≤ i := by omega
      rw [(fd_no (by rw [f1]; decide)).2.1]
      clear h hn hlf f1 l1
      go_enter Tryz.func50, Tryz.ntmps50
      go_wp2
      go_ret
      exact ⟨rfl, rfl⟩
  · rw [if_neg (fun h => h0 h.1)] at f1
    have q1 : i < 0 := by omega
    rw [(fd_no (by rw [f1]; decide)).2.1]
    clear h hn hlf f1 l1
    go_enter Tryz.func50, Tryz.ntmps50
    go_wp2
    go_ret
    exact ⟨rfl, rfl⟩

end Go.Proofs.YtinpkfdmellleaaGreat

namespace Go.Proofs.YtinpkfdmellleaaGreat
open Go.RowKit Plain
set_option linter.unusedVariables false

theorem lf_less {k : Nat} (h : k ≠ 0) : lfI ((some k : Option Nat).map (· - 1)) = (k : Int) - 1 := by
  show (((k - 1 : Nat)) : Int) = _
  omega
set_option maxRecDepth 100000 in
theorem rstep_any {w0 w : World} {r m cap : Nat} {X F : List Nat} {B : BS} (h : RX w0 w r m cap X F B) (hp : B.pw ≠ some 0) (hg : B.g < 1000000) : Calls Tryz.prog 51 #[.pointer (some ⟨r, 0, none⟩)] w fun e w' => e = .returned (.tuple #[]) ∧ RX w0 w' r m cap X F ⟨B.pw.map (· - 1), B.md + 1, B.g + 1, B.ms⟩ ∧ Sp [r] w w' := by
  have c1 := h.c1
  have c2 := h.c2
  have z1 := h.z 1
  have z2 := h.z 2
  have hmd := h.gd.md
  have gd : Gd ⟨B.pw.map (· - 1), B.md + 1, B.g + 1, B.ms⟩ := ⟨h.gd.n1, h.gd.n2, h.gd.rt, fun S hS => Nat.le_succ_of_le (h.gd.rl S hS), Nat.succ_le_succ h.gd.md⟩
  cases hpw : B.pw with
  | none =>
    rw [hpw] at c2 gd
    have k1 : Sp [r] w (w.setCell ⟨r, 1, none⟩ (.int .i64 ((B.md + 1 : Nat) : Int))) := (Sp.refl [r] w).set r 1 (by simp) _
    have h2 : RX w0 (w.setCell ⟨r, 1, none⟩ (.int .i64 ((B.md + 1 : Nat) : Int))) r m cap X F ⟨(none : Option Nat).map (· - 1), B.md + 1, B.g + 1, B.ms⟩ := h.own k1 rfl (cell_off _ _ _ _ _ (by omega)) (World.cell?_setCell_same _ _ _ c1) (by rw [cell_off _ _ _ _ _ (by omega)]; exact c2) (fun o => (World.frozen?_setCell _ _ _ _).trans (h.z o)) (fun k hk => by cases hk) gd
    have H2 := hid h2
    have K1 := hid k1
    have hle : B.md < 1000000 := by omega
    have c2' : w.cell? ⟨r, 2, none⟩ = some (.int .i64 (-1)) := c2
    obtain ⟨md, hmd2⟩ : ∃ md, md = B.md := ⟨_, rfl⟩
    rw [← hmd2] at c1 H2 K1 hle ⊢
    clear h h2 k1 hp hpw gd c2 hmd hg hmd2
    go_enter Tryz.func51, Tryz.ntmps51
    go_wp2
    go_end0
    exact ⟨rfl, H2.out, K1.out⟩
  | some k =>
    have hk0 : k ≠ 0 := fun e => hp (by rw [hpw, e])
    have hkm := h.pk k hpw
    rw [hpw] at c2 gd
    have c2' : w.cell? ⟨r, 2, none⟩ = some (.int .i64 (k : Int)) := c2
    have k0 : Sp [r] w (w.setCell ⟨r, 2, none⟩ (.int .i64 ((k : Int) - 1))) := (Sp.refl [r] w).set r 2 (by simp) _
    have k1 : Sp [r] w ((w.setCell ⟨r, 2, none⟩ (.int .i64 ((k : Int) - 1))).setCell ⟨r, 1, none⟩ (.int .i64 ((B.md + 1 : Nat) : Int))) := k0.set r 1 (by simp) _
    have d1 : (w.setCell ⟨r, 2, none⟩ (.int .i64 ((k : Int) - 1))).cell? ⟨r, 1, none⟩ = some (.int .i64 (B.md : Int)) := by rw [cell_off _ _ _ _ _ (by omega)]; exact c1
    have d2 : (w.setCell ⟨r, 2, none⟩ (.int .i64 ((k : Int) - 1))).cell? ⟨r, 2, none⟩ = some (.int .i64 (lfI ((some k : Option Nat).map (· - 1)))) := by rw [lf_less hk0]; exact World.cell?_setCell_same _ _ _ c2'
    have h2 : RX w0 ((w.setCell ⟨r, 2, none⟩ (.int .i64 ((k : Int) - 1))).setCell ⟨r, 1, none⟩ (.int .i64 ((B.md + 1 : Nat) : Int))) r m cap X F ⟨(some k : Option Nat).map (· - 1), B.md + 1, B.g + 1, B.ms⟩ := h.own k1 rfl ((cell_off _ _ _ _ _ (by omega)).trans (cell_off _ _ _ _ _ (by omega))) (World.cell?_setCell_same _ _ _ d1) (by rw [cell_off _ _ _ _ _ (by omega)]; exact d2) (fun o => (World.frozen?_setCell _ _ _ _).trans ((World.frozen?_setCell _ _ _ _).trans (h.z o))) (fun j hj => by cases hj; show ((k - 1 : Nat) : Int) ≤ _; omega) gd
    have H2 := hid h2
    have K1 := hid k1
    have hle : B.md < 1000000 := by omega
    have hkp : 0 < k := by omega
    obtain ⟨md, hmd2⟩ : ∃ md, md = B.md := ⟨_, rfl⟩
    rw [← hmd2] at c1 H2 K1 hle d1 ⊢
    clear h h2 k1 hp hpw gd c2 hmd hg hmd2 d2 hk0 k0
    go_enter Tryz.func51, Tryz.ntmps51
    go_wp2
    go_end0
    exact ⟨rfl, H2.out, K1.out⟩
theorem Dw.more {w0 w : World} {r m cap : Nat} {X F : List Nat} {B : BS} (h : RX w0 w r m cap X F B) : RX w0 w r m cap X F ⟨B.pw, B.md, B.g + 1, B.ms⟩ := ⟨h.hr, h.hm, h.c0, h.c1, h.c2, h.z, h.k1, h.k2, h.pk, h.ar, h.fam, h.n1, h.n2, h.n3, h.n4, h.n5, ⟨h.gd.n1, h.gd.n2, h.gd.rt, fun S hS => Nat.le_succ_of_le (h.gd.rl S hS), Nat.le_succ_of_le h.gd.md⟩⟩
theorem st_bad {B : BS} {i : Int} (h : stE B i ≠ 0) : stS B i = ⟨B.pw, B.md, B.g + 1, B.ms⟩ := by unfold stS; rw [if_neg h]

theorem dw_write {w0 w : World} {r : Nat} {T : List Nat} {B : BS} (h : Dw w0 w r T B) (K : Kp w0 w) (i k : Int) (s : ByteArray) (hg : B.g < 1000000) : Calls Tryz.prog 15 #[.pointer (some ⟨r, 0, none⟩), .int .i64 i, .int .i64 k, .string s] w fun e w' => e = .returned (.int .i64 (opE B i (fun S => wrE S k s))) ∧ Nz Dw w0 w w' r T (opS B i (fun S => wr S k s)) := by
  obtain ⟨m, cap, X, F, rfl, h1⟩ := h
  have hmay := rmay_any h1 i
  unfold opE opS
  by_cases he : stE B i = 0
  · rw [if_pos he, if_pos he]
    rw [he] at hmay
    have hf := (stE_ok he).1
    have hst := rstep_any h1 (stE_ok he).2 hg
    rw [← (st_yes hf (stE_ok he).2).2] at hst
    have HL : Hid ((bm B i).row.length ≤ B.g) := h1.gd.rowAt hf
    have HN : ∀ t, t ∈ r :: m :: F → w0.heap.size ≤ t := h1.new
    have HR : Hid (Right (bm B i)) := h1.gd.rightAt hf
    have HF := hid hf
    obtain ⟨b1, b2, b3, _⟩ := bm_mem hf
    have bl := h1.gd.n2
    have he' : (stS B i).ms.length = B.ms.length := by rw [(stS_ms B i).1]
    clear h1 he hf
    go_enter Tryz.func15, Tryz.ntmps15
    go_wp2_with fail
    refine hmay.mono ?_
    rintro e w1 ⟨rfl, rfl⟩
    go_wp2_with fail
    refine hst.mono ?_
    rintro e w2 ⟨rfl, h2, k2⟩
    obtain ⟨P, p1, p2, p3⟩ := h2.at (i := i) ((fd_st B i).trans HF.out)
    rw [bm_st] at p2
    have K1 : Kp w0 w2 := Sp.kp K k2.bb HN
    have hw := rw_put p2 K1 k s (by have := HL.out; omega)
    have c0 := h2.c0
    rw [he'] at c0
    have ar := h2.ar i.toNat (by rw [he']; exact b3)
    have kk := h2.k2
    obtain ⟨n, hn⟩ : ∃ n, n = B.ms.length := ⟨_, rfl⟩
    rw [← hn] at c0 b2 b3 bl
    obtain ⟨j, hj⟩ : ∃ j : Nat, i = (j : Int) := ⟨i.toNat, by omega⟩
    have HP3 := hid p3
    have HK2 := hid k2
    have HJ := hid hj
    rw [hj]
    rw [hj, Int.toNat_natCast] at ar hw
    have hjn : j < n := by omega
    clear p1 p2 p3 h2 k2 hst HN hn hj b1 b2 b3
    go_wp2_with fail
    refine hw.mono ?_
    rintro e w3 ⟨rfl, n3⟩
    rw [← HJ.out] at n3 ⊢
    have n3' : Nz Rw w0 w2 w3 (X.getD i.toNat 0) P (wr (bm B i) k s) := by rw [HJ.out, Int.toNat_natCast, ← HJ.out]; exact n3
    obtain ⟨T', q1, q2, q3⟩ := HP3.out w3 _ n3' (HR.out.wr k s) (by have := wr_rows k s (bm B i); have := HL.out; rw [(stS_ms B i).2]; omega)
    have Q1 := hid q1
    have Q2 : Hid (Sp (r :: m :: F) w1 w3) := HK2.out.bb.trans q2
    have Q3 : Hid (Nw w1 (r :: m :: F) T') := fun t ht => (q3 t ht).imp id (fun h => Nat.le_trans HK2.out.size h)
    clear q1 q2 q3 n3 n3'
    go_wp2
    go_ret
    exact ⟨rfl, T', Q1.out, Q2.out, Q3.out⟩
  · rw [if_neg he, if_neg he, st_bad he]
    have he2 : (stE B i == 0) = false := beq_eq_false_iff_ne.2 he
    have HD : Hid (Dw w0 w r (r :: m :: F) ⟨B.pw, B.md, B.g + 1, B.ms⟩) := ⟨m, cap, X, F, rfl, Dw.more h1⟩
    clear h1
    go_enter Tryz.func15, Tryz.ntmps15
    go_wp2_with fail
    refine hmay.mono ?_
    rintro e w1 ⟨rfl, rfl⟩
    go_wp2
    go_ret
    exact ⟨rfl, Nz.refl HD.out⟩
theorem dw_flush {w0 w : World} {r : Nat} {T : List Nat} {B : BS} (h : Dw w0 w r T B) (K : Kp w0 w) (i : Int) (hg : B.g < 1000000) : Calls Tryz.prog 64 #[.pointer (some ⟨r, 0, none⟩), .int .i64 i] w fun e w' => e = .returned (.int .i64 (opE B i flE)) ∧ Nz Dw w0 w w' r T (opS B i fl) := by
  obtain ⟨m, cap, X, F, rfl, h1⟩ := h
  have hmay := rmay_any h1 i
  unfold opE opS
  by_cases he : stE B i = 0
  · rw [if_pos he, if_pos he]
    rw [he] at hmay
    have hf := (stE_ok he).1
    have hst := rstep_any h1 (stE_ok he).2 hg
    rw [← (st_yes hf (stE_ok he).2).2] at hst
    have HL : Hid ((bm B i).row.length ≤ B.g) := h1.gd.rowAt hf
    have HN : ∀ t, t ∈ r :: m :: F → w0.heap.size ≤ t := h1.new
    have HR : Hid (Right (bm B i)) := h1.gd.rightAt hf
    have HF := hid hf
    obtain ⟨b1, b2, b3, _⟩ := bm_mem hf
    have bl := h1.gd.n2
    have he' : (stS B i).ms.length = B.ms.length := by rw [(stS_ms B i).1]
    clear h1 he hf
    go_enter Tryz.func64, Tryz.ntmps64
    go_wp2_with fail
    refine hmay.mono ?_
    rintro e w1 ⟨rfl, rfl⟩
    go_wp2_with fail
    refine hst.mono ?_
    rintro e w2 ⟨rfl, h2, k2⟩
    obtain ⟨P, p1, p2, p3⟩ := h2.at (i := i) ((fd_st B i).trans HF.out)
    rw [bm_st] at p2
    have K1 : Kp w0 w2 := Sp.kp K k2.bb HN
    have hw := rw_flush p2 K1
    have c0 := h2.c0
    rw [he'] at c0
    have ar := h2.ar i.toNat (by rw [he']; exact b3)
    have kk := h2.k2
    obtain ⟨n, hn⟩ : ∃ n, n = B.ms.length := ⟨_, rfl⟩
    rw [← hn] at c0 b2 b3 bl
    obtain ⟨j, hj⟩ : ∃ j : Nat, i = (j : Int) := ⟨i.toNat, by omega⟩
    have HP3 := hid p3
    have HK2 := hid k2
    have HJ := hid hj
    rw [hj]
    rw [hj, Int.toNat_natCast] at ar hw
    have hjn : j < n := by omega
    clear p1 p2 p3 h2 k2 hst HN hn hj b1 b2 b3
    go_wp2_with fail
    refine hw.mono ?_
    rintro e w3 ⟨rfl, n3⟩
    rw [← HJ.out] at n3 ⊢
    have n3' : Nz Rw w0 w2 w3 (X.getD i.toNat 0) P (fl (bm B i)) := by rw [HJ.out, Int.toNat_natCast, ← HJ.out]; exact n3
    obtain ⟨T', q1, q2, q3⟩ := HP3.out w3 _ n3' HR.out.fl (by have := fl_rows (bm B i); have := HL.out; rw [(stS_ms B i).2]; omega)
    have Q1 := hid q1
    have Q2 : Hid (Sp (r :: m :: F) w1 w3) := HK2.out.bb.trans q2
    have Q3 : Hid (Nw w1 (r :: m :: F) T') := fun t ht => (q3 t ht).imp id (fun h => Nat.le_trans HK2.out.size h)
    clear q1 q2 q3 n3 n3'
    go_wp2
    go_ret
    exact ⟨rfl, T', Q1.out, Q2.out, Q3.out⟩
  · rw [if_neg he, if_neg he, st_bad he]
    have he2 : (stE B i == 0) = false := beq_eq_false_iff_ne.2 he
    have HD : Hid (Dw w0 w r (r :: m :: F) ⟨B.pw, B.md, B.g + 1, B.ms⟩) := ⟨m, cap, X, F, rfl, Dw.more h1⟩
    clear h1
    go_enter Tryz.func64, Tryz.ntmps64
    go_wp2_with fail
    refine hmay.mono ?_
    rintro e w1 ⟨rfl, rfl⟩
    go_wp2
    go_ret
    exact ⟨rfl, Nz.refl HD.out⟩

theorem dw_read {w0 w : World} {r : Nat} {T : List Nat} {B : BS} (h : Dw w0 w r T B) (K : Kp w0 w) (i k : Int) : Calls Tryz.prog 69 #[.pointer (some ⟨r, 0, none⟩), .int .i64 i, .int .i64 k] w fun e w' => e = .returned (.tuple #[.string (rdT B i k), .int .i64 (rdE B i k)]) ∧ Nz Dw w0 w w' r T (rdB B i k) := by
  obtain ⟨m, cap, X, F, rfl, h1⟩ := h
  have hmay := rmay_any h1 i
  have HD : Hid (Dw w0 w r (r :: m :: F) B) := ⟨m, cap, X, F, rfl, h1⟩
  unfold rdT rdE rdB
  by_cases he : stE B i = 0
  · rw [if_pos he, if_pos he, if_pos he]
    rw [he] at hmay
    have hf := (stE_ok he).1
    obtain ⟨P, p1, p2, p3⟩ := h1.at hf
    have HL : Hid ((bm B i).row.length ≤ B.g) := h1.gd.rowAt hf
    have HR : Hid (Right (bm B i)) := h1.gd.rightAt hf
    have hw := rw_read p2 K k HR.out
    obtain ⟨b1, b2, b3, _⟩ := bm_mem hf
    have bl := h1.gd.n2
    have c0 := h1.c0
    have ar := h1.ar i.toNat b3
    have kk := h1.k2
    obtain ⟨n, hn⟩ : ∃ n, n = B.ms.length := ⟨_, rfl⟩
    rw [← hn] at c0 b2 b3 bl
    obtain ⟨j, hj⟩ : ∃ j : Nat, i = (j : Int) := ⟨i.toNat, by omega⟩
    have HP3 := hid p3
    have HJ := hid hj
    rw [hj]
    rw [hj, Int.toNat_natCast] at ar hw
    rw [hj] at hmay
    have hjn : j < n := by omega
    clear p1 p2 p3 h1 he hf hn hj b1 b2 b3
    go_enter Tryz.func69, Tryz.ntmps69
    go_wp2_with fail
    refine hmay.mono ?_
    rintro e w1 ⟨rfl, rfl⟩
    go_wp2_with fail
    refine hw.mono ?_
    rintro e w3 ⟨rfl, n3⟩
    have n3' : Nz Rw w0 w1 w3 (X.getD i.toNat 0) P (rd (bm B i) k) := by rw [HJ.out, Int.toNat_natCast]; exact n3
    have q := hid (HP3.out w3 _ n3' (HR.out.rd k) (by have := HL.out; unfold rd; split <;> exact this))
    rw [HJ.out] at q
    clear n3 n3'
    go_wp2
    go_ret2
    exact ⟨rfl, q.out⟩
  · rw [if_neg he, if_neg he, if_neg he]
    have he2 : (stE B i == 0) = false := beq_eq_false_iff_ne.2 he
    clear h1
    go_enter Tryz.func69, Tryz.ntmps69
    go_wp2_with fail
    refine hmay.mono ?_
    rintro e w1 ⟨rfl, rfl⟩
    go_wp2
    go_ret2
    exact ⟨rfl, Nz.refl HD.out⟩
theorem dw_cut {w0 w : World} {r : Nat} {T : List Nat} {B : BS} (h : Dw w0 w r T B) (n : Int) (hn : (Lit.int .i64 n).wf = true) : Calls Tryz.prog 41 #[.pointer (some ⟨r, 0, none⟩), .int .i64 n] w fun e w' => e = .returned (.tuple #[]) ∧ Nz Dw w0 w w' r T (ctB B n) := by
  obtain ⟨m, cap, X, F, rfl, h1⟩ := h
  have hb := bounds_i64 hn
  have c2 := h1.c2
  have z2 := h1.z 2
  have fin : ∀ x : Int, x = (n.toNat : Int) → Nz Dw w0 w (w.setCell ⟨r, 2, none⟩ (.int .i64 x)) r (r :: m :: F) (ctB B n) := fun x hx => by
    have k1 : Sp [r] w (w.setCell ⟨r, 2, none⟩ (.int .i64 x)) := (Sp.refl [r] w).set r 2 (by simp) _
    refine ⟨r :: m :: F, ⟨m, cap, X, F, rfl, h1.own k1 rfl (cell_off _ _ _ _ _ (by omega)) (by rw [cell_off _ _ _ _ _ (by omega)]; exact h1.c1) ?_ (fun o => (World.frozen?_setCell _ _ _ _).trans (h1.z o)) (fun j hj => by cases hj; omega) (h1.gd.cut n)⟩, k1.bb, Nw.refl _ _⟩
    rw [World.cell?_setCell_same _ _ _ c2, hx]
    rfl
  by_cases h0 : n < 0
  · have q := hid (fin 0 (by omega))
    clear h1 fin hn hb
    go_enter Tryz.func41, Tryz.ntmps41
    go_wp2
    go_end0
    exact ⟨rfl, q.out⟩
  · have q := hid (fin n (by omega))
    clear h1 fin hn hb
    go_enter Tryz.func41, Tryz.ntmps41
    go_wp2
    go_end0
    exact ⟨rfl, q.out⟩
theorem Dw.gd {w0 w : World} {r : Nat} {T : List Nat} {B : BS} (h : Dw w0 w r T B) : Gd B := by
  obtain ⟨m, cap, X, F, rfl, h1⟩ := h
  exact h1.gd

end Go.Proofs.YtinpkfdmellleaaGreat

namespace Go.Proofs.YtinpkfdmellleaaGreat
open Go.RowKit Plain
set_option linter.unusedVariables false

theorem RX.deadAt {w0 w : World} {r m cap : Nat} {X F : List Nat} {B : BS} (h : RX w0 w r m cap X F B) (i : Nat) (hi : i < B.ms.length) : w.cell? ⟨X.getD i 0, 2, none⟩ = some (.bool (B.ms.getD i noM).dead) := by
  obtain ⟨P, p1, p2, p3⟩ := h.atX i hi
  exact rw_dead p2
theorem RX.kp {w0 w w' : World} {r m cap : Nat} {X F : List Nat} {B : BS} (h : RX w0 w r m cap X F B) (k : Kp w w') : RX w0 w' r m cap X F B := h.sp (k.sp []) (fun _ _ h => by cases h)
set_option maxRecDepth 100000 in
set_option maxHeartbeats 1000000 in
theorem rlive_any {w0 w : World} {r m cap : Nat} {X F : List Nat} {B : BS} (h : RX w0 w r m cap X F B) : Calls Tryz.prog 62 #[.pointer (some ⟨r, 0, none⟩)] w fun e w' => ∃ v, e = .returned v ∧ Lv w w' v (lvL 0 B.ms) ∧ Kp w w' := by
  obtain ⟨s1, s2⟩ := h.size
  have kk := h.k2
  have kk1 := h.k1
  obtain ⟨n, hn⟩ : ∃ n, n = B.ms.length := ⟨_, rfl⟩
  rw [← hn] at s1 s2 kk1
  have HN := hid hn
  have H := hid h
  clear hn h
  go_enter Tryz.func62, Tryz.ntmps62
  go_wp2_with fail
  go_loopw [3, 4] (fun v i wr => ∃ k : Nat, k ≤ n ∧ i = .int .i64 k ∧ Hid (OR wr w.heap.size 3 v (vn (lvL 0 (B.ms.take k)))) ∧ Hid (Kp w wr)) (fun _ i _ => n - (intOf i).toNat)
  case atStart => exact ⟨0, by omega, by go_num, World.ownsRow_nil _ _ _ _, Kp.refl w⟩
  case round =>
    obtain ⟨k, hk, rfl, HO, HS⟩ := hrel
    have hX := H.out.kp HS.out
    have c0 := hX.c0
    rw [← HN.out] at c0
    by_cases hlt : k < n
    · have hk2 : k < B.ms.length := by rw [← HN.out]; exact hlt
      have ar := hX.ar k hk2
      have da := hX.deadAt k hk2
      obtain ⟨x, hx⟩ : ∃ x, x = X.getD k 0 := ⟨_, rfl⟩
      rw [← hx] at ar da
      clear hX hx
      cases hdd : (B.ms.getD k noM).dead with
      | true =>
        rw [hdd] at da
        have e1 := lv_less B.ms k hk2 hdd
        have HO2 : Hid (OR wr w.heap.size 3 u3 (vn (lvL 0 (B.ms.take (k + 1))))) := by rw [e1]; exact HO
        clear e1 hdd HO
        go_wp2
        go_roundw
        case rel => exact ⟨k + 1, by omega, by go_num, HO2, HS⟩
        case measure => simp [intOf]; omega
      | false =>
        rw [hdd] at da
        have e1 := lv_more B.ms k hk2 hdd
        have HL : Hid ((vn (lvL 0 (B.ms.take k))).length ≤ 32) := by
          have := lvL_len (B.ms.take k) 0
          rw [List.length_take] at this
          show (vn (lvL 0 (B.ms.take k))).length ≤ 32
          rw [vn_len]; omega
        have hs1 := HS.out.size
        have HE := hid e1
        clear e1 hdd
        go_wp2_with (at_builtin; refine wpList_append_or rfl _ _ 61 3 (.int .i64 0) 8 Tryz.underlying61 info_int rfl (by omega) rfl w.heap.size _ _ rfl (HO.out.kp ((Kp.refl wr).alloc (.cells #[.int .i64 (k : Int)] 3))) (.int .i64 (k : Int)) rfl _ rfl (by rw [World.cell?_alloc_at _ _ _ _ rfl]; rfl) (by have := HL.out; omega) (by simp; omega) ?_)
        intro v' w3 ho3 hg3
        have HO3 : Hid (OR w3 w.heap.size 3 v' (vn (lvL 0 (B.ms.take (k + 1))))) := by rw [HE.out]; exact ho3
        have HS3 : Hid (Kp w w3) := (HS.out.alloc _).grown hg3 (fun q hq => (World.ownsRow.lt HO.out q hq).1)
        clear ho3 hg3 HO HS HE HL ar da c0
        go_wp2
        go_roundw
        case rel => exact ⟨k + 1, by omega, by go_num, HO3, HS3⟩
        case measure => simp [intOf]; omega
    · obtain rfl : k = n := by omega
      clear hX
      go_wp2
      go_ret
      refine ⟨_, rfl, ?_, HS.out⟩
      have := Lv.of HO.out
      rw [List.take_of_length_le (by rw [HN.out]; omega)] at this
      exact this
theorem dw_live {w0 w : World} {r : Nat} {T : List Nat} {B : BS} (h : Dw w0 w r T B) : Calls Tryz.prog 62 #[.pointer (some ⟨r, 0, none⟩)] w fun e w' => ∃ v, e = .returned v ∧ Lv w w' v (lvL 0 B.ms) ∧ Kp w w' := by
  obtain ⟨m, cap, X, F, rfl, h1⟩ := h
  exact rlive_any h1

/-! ### Crash -/
def Cr (w0 w wr : World) (r m cap : Nat) (X F : List Nat) (B : BS) (ks : Nat → List Nat) (k : Nat) : Prop := ∃ F', RX w0 wr r m cap X F' ⟨B.pw, B.md, B.g, crM ks 0 k B.ms⟩ ∧ Sp (r :: m :: F) w wr ∧ Nw w (r :: m :: F) (r :: m :: F')
theorem Cr.step {w0 w wr : World} {r m cap : Nat} {X F : List Nat} {B : BS} {ks : Nat → List Nat} {k : Nat} (h : Cr w0 w wr r m cap X F B ks k) (K : Kp w0 w) (hN : ∀ t, t ∈ r :: m :: F → w0.heap.size ≤ t) (hk : k < B.ms.length) (hg : B.g < 1000000) (v : Value) (hv : KeIn w0 v (ks k)) : Calls Tryz.prog 88 #[.pointer (some ⟨X.getD k 0, 0, none⟩), v] wr fun e w' => e = .returned (.tuple #[]) ∧ Cr w0 w w' r m cap X F B ks (k + 1) := by
  obtain ⟨F', h1, h2, h3⟩ := h
  have K1 : Kp w0 wr := Sp.kp K h2 hN
  have hl : (crM ks 0 k B.ms).length = B.ms.length := crM_len _ _ _ _
  obtain ⟨P, p1, p2, p3⟩ := h1.atX k (by show k < (crM ks 0 k B.ms).length; rw [hl]; exact hk)
  have e : (crM ks 0 k B.ms).getD k noM = B.ms.getD k noM := by
    rw [crM_at ks B.ms 0 k k hk, if_neg (by omega)]
  have p2' : Rw w0 wr (X.getD k 0) P (B.ms.getD k noM) := by rw [← e]; exact p2
  have hin : B.ms.getD k noM ∈ crM ks 0 k B.ms := by
    rw [← e]
    rw [List.getD_eq_getElem?_getD, List.getElem?_eq_getElem (by rw [hl]; exact hk)]
    exact List.getElem_mem _
  have hrl : (B.ms.getD k noM).row.length < 1000000 := by
    have h9 : (B.ms.getD k noM).row.length ≤ B.g := h1.gd.rl _ hin
    omega
  refine (rw_crash p2' K1 v (ks k) hv (h1.gd.rt _ hin) hrl).mono fun e' w' ⟨he, hn⟩ => ⟨he, ?_⟩
  obtain ⟨F2, q1, q2, q3⟩ := p3 w' _ hn (Right.cr _) (Nat.le_trans (cr_row _ _) (Nat.zero_le _))
  refine ⟨F2, ?_, h2.then (q2.mono (fun t ht => by simp [ht])) h3, h3.trans (nw_more q3) h2.size⟩
  have em := crM_more ks B.ms 0 k hk
  rw [Nat.zero_add] at em
  rw [em]
  exact q1
set_option maxRecDepth 100000 in
set_option maxHeartbeats 1000000 in
theorem rcrash_bay {w0 w : World} {r m cap : Nat} {X F : List Nat} {B : BS} (h : RX w0 w r m cap X F B) (K : Kp w0 w) (v : Value) (n : Nat) (ks : Nat → List Nat) (hv : Ks w0 w (r :: m :: F) v n ks) (hg : B.g < 1000000) : Calls Tryz.prog 42 #[.pointer (some ⟨r, 0, none⟩), v] w fun e w' => e = .returned (.tuple #[]) ∧ Nz Dw w0 w w' r (r :: m :: F) (crB B ks) := by
  obtain ⟨s1, s2⟩ := h.size
  have HN : Hid (∀ t, t ∈ r :: m :: F → w0.heap.size ≤ t) := h.new
  have H0 : Hid (Cr w0 w w r m cap X F B ks 0) := ⟨F, by rw [crM_none _ _ _ _ (Nat.le_refl _)]; exact h, Sp.refl _ _, Nw.refl _ _⟩
  have HGd := hid h.gd
  have kk := h.k2
  have kk1 := h.k1
  obtain ⟨N, hNN⟩ : ∃ N, N = B.ms.length := ⟨_, rfl⟩
  rw [← hNN] at s1 s2 kk1
  have HL := hid hNN
  obtain ⟨a, g, off, cap2, rfl, v1, v2, v3, v4⟩ := hv.h
  have HZ := hid hv.z
  have HV3 := hid v3
  have HV4 := hid v4
  clear h hNN hv v3 v4
  go_enter Tryz.func42, Tryz.ntmps42
  go_wp2_with fail
  go_loopw [4] (fun i wr => ∃ k : Nat, k ≤ N ∧ i = .int .i64 k ∧ Hid (Cr w0 w wr r m cap X F B ks k)) (fun i _ => N - (intOf i).toNat)
  case atStart => exact ⟨0, by omega, by go_num, H0⟩
  case round =>
    clear H0
    obtain ⟨k, hk, rfl, HC⟩ := hrel
    have c0 : wr.cell? ⟨r, 0, none⟩ = some (.slice (some ⟨m, 0, none⟩) N cap) := by
      obtain ⟨F', x1, _⟩ := HC.out
      have := x1.c0
      rw [show (⟨B.pw, B.md, B.g, crM ks 0 k B.ms⟩ : BS).ms.length = N from (crM_len _ _ _ _).trans HL.out.symm] at this
      exact this
    by_cases hlt : k < N
    · have hk2 : k < B.ms.length := by rw [← HL.out]; exact hlt
      have ar : wr.cell? ⟨m, k, none⟩ = some (.pointer (some ⟨X.getD k 0, 0, none⟩)) := by
        obtain ⟨F', x1, _⟩ := HC.out
        exact x1.ar k (by show k < (crM ks 0 k B.ms).length; rw [crM_len]; exact hk2)
      by_cases hkn : k < n
      · obtain ⟨rfl, hgl, hgT⟩ := HV3.out (by omega)
        obtain ⟨u, hu, hke⟩ := HV4.out k hkn
        have hu2 : wr.cell? ⟨g, off + k, none⟩ = some u := by
          obtain ⟨F', _, x2, _⟩ := HC.out
          exact x2.held hu hgT
        have hc := Cr.step HC.out K HN.out hk2 hg u hke
        obtain ⟨x, hx⟩ : ∃ x, x = X.getD k 0 := ⟨_, rfl⟩
        rw [← hx] at ar hc
        obtain ⟨ua, uc, hua, _⟩ := hke.h
        have hun : ∃ un, un = (ks k).length := ⟨_, rfl⟩
        obtain ⟨un, hun⟩ := hun
        rw [← hun] at hua
        subst hua
        clear hu hke hgl hgT HC hk2 hx hun
        go_wp2_with fail
        refine hc.mono ?_
        rintro e w1 ⟨rfl, q1⟩
        have Q1 := hid q1
        clear q1 hc ar c0 hu2
        go_wp2
        go_roundw
        case rel => exact ⟨k + 1, by omega, by go_num, Q1⟩
        case measure => simp [intOf]; omega
      · have hke : KeIn w0 (.slice none 0 0) (ks k) := by rw [HZ.out k (by omega)]; exact ke_nil w0
        have hc := Cr.step HC.out K HN.out hk2 hg _ hke
        have hkn2 : ¬ (k : Int) < (n : Int) := by omega
        obtain ⟨x, hx⟩ : ∃ x, x = X.getD k 0 := ⟨_, rfl⟩
        rw [← hx] at ar hc
        clear hke HC hk2 hx
        go_wp2_with fail
        refine hc.mono ?_
        rintro e w1 ⟨rfl, q1⟩
        have Q1 := hid q1
        clear q1 hc ar c0
        go_wp2
        go_roundw
        case rel => exact ⟨k + 1, by omega, by go_num, Q1⟩
        case measure => simp [intOf]; omega
    · obtain rfl : k = N := by omega
      obtain ⟨F', x1, x2, x3⟩ := HC.out
      have c2 := x1.c2
      have z2 := x1.z 2
      have gd : Gd (crB B ks) := HGd.out.crash ks
      have ec : crB B ks = ⟨none, B.md, B.g, crM ks 0 k B.ms⟩ := by unfold crB; rw [← HL.out]
      have k1 : Sp [r] wr (wr.setCell ⟨r, 2, none⟩ (.int .i64 (-1))) := (Sp.refl [r] wr).set r 2 (by simp) _
      have hx : RX w0 (wr.setCell ⟨r, 2, none⟩ (.int .i64 (-1))) r m cap X F' (crB B ks) := by
        rw [ec]
        exact x1.own k1 rfl (cell_off _ _ _ _ _ (by omega)) (by rw [cell_off _ _ _ _ _ (by omega)]; exact x1.c1) (World.cell?_setCell_same _ _ _ c2) (fun o => (World.frozen?_setCell _ _ _ _).trans (x1.z o)) (fun k hk => by cases hk) (by rw [← ec]; exact gd)
      have q : Hid (Nz Dw w0 w (wr.setCell ⟨r, 2, none⟩ (.int .i64 (-1))) r (r :: m :: F) (crB B ks)) := ⟨r :: m :: F', ⟨m, cap, X, F', rfl, hx⟩, x2.trans k1.bb, x3⟩
      obtain ⟨y, hy⟩ : ∃ y, y = lfI B.pw := ⟨_, rfl⟩
      have c2' : wr.cell? ⟨r, 2, none⟩ = some (.int .i64 y) := by rw [hy]; exact c2
      clear k1 gd ec hx x1 x2 x3 c2 hy HC
      go_wp2
      go_end0
      exact ⟨rfl, q.out⟩
theorem dw_crash {w0 w : World} {r : Nat} {T : List Nat} {B : BS} (h : Dw w0 w r T B) (K : Kp w0 w) (v : Value) (n : Nat) (ks : Nat → List Nat) (hv : Ks w0 w T v n ks) (hg : B.g < 1000000) : Calls Tryz.prog 42 #[.pointer (some ⟨r, 0, none⟩), v] w fun e w' => e = .returned (.tuple #[]) ∧ Nz Dw w0 w w' r T (crB B ks) := by
  obtain ⟨m, cap, X, F, rfl, h1⟩ := h
  exact rcrash_bay h1 K v n ks hv hg

end Go.Proofs.YtinpkfdmellleaaGreat

namespace Go.Proofs.YtinpkfdmellleaaGreat
open Go.RowKit Plain
set_option linter.unusedVariables false

theorem wpList_append_or2 {w : World} {ops : Array Oper} {rest : List Oper} {o : Oper} {a : Act} {Q : Exit → Act → World → Prop} (hgd : o.guard = none) (s x : Operand) (t e : TypeId) (z : Value) (bytes : Nat) (ht : Tryz.prog.underlying t = some (.slice e))
    (hinfo : (Tryz.prog.info? e).map (fun i => (i.zero, i.size, i.bytes)) = some (some z, 1, bytes)) (hzs : z.cells.size = 1) (hby : bytes ≤ 64)
    (ho : o.op = .call { callee := .builtin .append, args := #[s, x], argTypes := #[t, t] })
    (base : Nat) (v : Value) (xs : List Value) (hs : a.eval s = v) (hown : OR w base e v xs) (p : Value) (hp : p.oneCell' = true) (k : Nat) (hx : a.eval x = .slice (some ⟨k, 0, none⟩) 1 1) (hc : w.cell? ⟨k, 0, none⟩ = some p)
    (hlen : xs.length + 1 ≤ 1099511627776) (hbase : base ≤ w.heap.size)
    (h : ∀ v' w', OR w' base e v' (xs ++ [p]) → w.grownBy w' v.ownBlock → (v'.ownBlock = v.ownBlock ∨ v'.ownBlock = some w.heap.size) → wpList Tryz.prog ops Q rest (a.put o.dst v') w') : wpList Tryz.prog ops Q (o :: rest) a w := by
  obtain ⟨i0, hi, hz0, hz1, hz2⟩ := info_parts hinfo
  refine wpList_append_own_at w hgd s x t ho base e i0 z 1 bytes ht hi hz0 hz1 hz2 hzs (by decide) v xs.length xs hs hown ⟨k, 0, none⟩ 1 1 [p] hx rfl ?_ (by simpa using hp) (by unfold maxLen; omega) ?_ hbase (fun v' w' h1 h2 _ h4 => h v' w' ?_ h2 h4)
  · intro j u hj
    match j, hj with
    | 0, hj => simp at hj; subst hj; simpa [Addr.add] using hc
  · have h1 : (xs.length + 1) * bytes ≤ (xs.length + 1) * 64 := Nat.mul_le_mul_left _ hby
    omega
  · unfold OR
    rw [List.length_append]
    exact h1
theorem info_rp : (Tryz.prog.info? 44).map (fun i => (i.zero, i.size, i.bytes)) = some (some (.pointer none), 1, 8) := by kernel_rfl
def pv (X : List Nat) : List Value := X.map (fun (x : Nat) => Value.pointer (some ⟨x, 0, none⟩))
theorem pv_len (X : List Nat) : (pv X).length = X.length := by simp [pv]
theorem pv_at (X : List Nat) (j : Nat) (h : j < X.length) : (pv X)[j]? = some (.pointer (some ⟨X.getD j 0, 0, none⟩)) := by
  simp [pv, h]
theorem pv_app (X : List Nat) (x : Nat) : pv (X ++ [x]) = pv X ++ [.pointer (some ⟨x, 0, none⟩)] := by simp [pv]
/-- the document's bay whose first k members are made. -/
structure NwR (w0 w wr : World) (r k : Nat) (v : Value) (X F : List Nat) (S : MS) : Prop where
  hr : r < wr.heap.size
  c0 : wr.cell? ⟨r, 0, none⟩ = some v
  c1 : wr.cell? ⟨r, 1, none⟩ = some (.int .i64 0)
  c2 : wr.cell? ⟨r, 2, none⟩ = some (.int .i64 (-1))
  z : ∀ o, wr.frozen? ⟨r, o, none⟩ = false
  o : OR wr w.heap.size 44 v (pv X)
  fam : Fam Rw w0 wr X (List.replicate k S) F
  n1 : r ∉ F
  n2 : ∀ g, v.ownBlock = some g → g ∉ F ∧ g ≠ r
  hrw : w.heap.size ≤ r
  fn : ∀ t, t ∈ F → w.heap.size ≤ t
  kp : Kp w wr
theorem NwR.len {w0 w wr : World} {r k : Nat} {v : Value} {X F : List Nat} {S : MS} (h : NwR w0 w wr r k v X F S) : X.length = k := by
  have := h.fam.len
  simpa using this
theorem NwR.more {w0 w wr : World} {r k : Nat} {v : Value} {X F : List Nat} {S : MS} (h : NwR w0 w wr r k v X F S) {w1 w3 : World} {x : Nat} {P : List Nat} {v' : Value} {ob : Obj} (ho : Rw w0 w1 x P S) (k1 : Kp wr w1) (hP : ∀ t, t ∈ P → wr.heap.size ≤ t) (h3 : OR w3 w.heap.size 44 v' (pv X ++ [.pointer (some ⟨x, 0, none⟩)])) (hg : (w1.alloc ob).grownBy w3 v.ownBlock) (hb : v'.ownBlock = v.ownBlock ∨ v'.ownBlock = some (w1.heap.size + 1)) : NwR w0 w (w3.setCell ⟨r, 0, none⟩ v') r (k + 1) v' (X ++ [x]) (F ++ P) S := by
  have s13 : Sp v.ownBlock.toList w1 w3 := (((Kp.refl w1).alloc ob).sp _).trans (Sp.grown hg)
  have e0 := k1.sp []
  have hbl : ∀ g, g ∈ v.ownBlock.toList → g ∉ F ∧ g ≠ r ∧ g ∉ P := fun g hm => by
    have hm2 : v.ownBlock = some g := by simpa using hm
    obtain ⟨h5, h6⟩ := h.n2 g hm2
    refine ⟨h5, h6, fun hp => ?_⟩
    have h7 := (World.ownsRow.lt h.o g hm2).2
    have := hP g hp
    omega
  have hrv : r ∉ v.ownBlock.toList := fun hm => (hbl r hm).2.1 rfl
  have hrP : r ∉ P := fun hm => by have := hP r hm; have := h.hr; omega
  have sz1 : wr.heap.size ≤ w1.heap.size := k1.size
  have hr1 : r < w1.heap.size := Nat.lt_of_lt_of_le h.hr sz1
  have hr3 : r < w3.heap.size := Nat.lt_of_lt_of_le hr1 s13.size
  have dj : Dj F P := fun t ht ht2 => by have := h.fam.low OL.rw t ht; have := hP t ht2; omega
  have fam1 : Fam Rw w0 w1 X (List.replicate k S) F := h.fam.kp OL.rw k1
  have fam2 := Fam.snoc OL.rw ho fam1 dj
  rw [show List.replicate k S ++ [S] = List.replicate (k + 1) S from by rw [List.replicate_succ']] at fam2
  have low2 := fam2.low OL.rw
  have fam3 : Fam Rw w0 w3 (X ++ [x]) (List.replicate (k + 1) S) (F ++ P) := fam2.sp OL.rw s13 (fun t ht hm => by
    obtain ⟨h5, h6, h7⟩ := hbl t hm
    rcases List.mem_append.1 ht with h8 | h8
    · exact h5 h8
    · exact h7 h8)
  have q : Sp [r] w3 (w3.setCell ⟨r, 0, none⟩ v') := (Sp.refl [r] w3).set r 0 (by simp) _
  have hv' : ∀ g, v'.ownBlock = some g → g ∉ F ++ P ∧ g ≠ r := fun g hm => by
    rcases hb with e | e
    · rw [e] at hm
      obtain ⟨h5, h6, h7⟩ := hbl g (by simpa using hm)
      exact ⟨fun h8 => by rcases List.mem_append.1 h8 with h9 | h9; exact h5 h9; exact h7 h9, h6⟩
    · rw [e] at hm
      simp only [Option.some.injEq] at hm
      exact ⟨fun h8 => by have := low2 g h8; omega, by omega⟩
  have c0' : w3.cell? ⟨r, 0, none⟩ = some v := s13.held (e0.held h.c0 (by simp)) hrv
  have n1' : r ∉ F ++ P := fun h8 => by
    rcases List.mem_append.1 h8 with h9 | h9
    · exact h.n1 h9
    · exact hrP h9
  refine ⟨Nat.lt_of_lt_of_le hr3 q.size, World.cell?_setCell_same _ _ _ c0', ?_, ?_, fun o => (World.frozen?_setCell _ _ _ _).trans ((s13.frozen hr1 hrv o).trans ((e0.frozen h.hr (by simp) o).trans (h.z o))), ?_, fam3.sp OL.rw q (fun t ht => by simp; rintro rfl; exact n1' ht), n1', hv', h.hrw, fun t ht => ?_, ?_⟩
  · rw [cell_off _ _ _ _ _ (by omega)]; exact s13.held (e0.held h.c1 (by simp)) hrv
  · rw [cell_off _ _ _ _ _ (by omega)]; exact s13.held (e0.held h.c2 (by simp)) hrv
  · rw [pv_app]
    exact q.own h3 (fun g hg2 hm => (hv' g hg2).2 (by simpa using hm))
  · rcases List.mem_append.1 ht with h5 | h5
    · exact h.fn t h5
    · exact Nat.le_trans h.kp.size (hP t h5)
  · have K1 : Kp w w1 := h.kp.trans k1
    have K3 : Kp w w3 := (K1.alloc ob).grown hg (fun g hm => (World.ownsRow.lt h.o g hm).1)
    exact Kp.set K3 r 0 h.hrw _
theorem NwR.start {w0 w : World} {S : MS} : NwR w0 w (w.alloc (.cells #[.slice none 0 0, .int .i64 0, .int .i64 (-1)] 47)) w.heap.size 0 (.slice none 0 0) [] [] S := by
  have hc : ∀ i, (w.alloc (.cells #[.slice none 0 0, .int .i64 0, .int .i64 (-1)] 47)).cell? ⟨w.heap.size, i, none⟩ = (#[.slice none 0 0, .int .i64 0, .int .i64 (-1)] : Array Value)[i]? := fun i => World.cell?_alloc_at _ _ _ i rfl
  exact ⟨by simp, hc 0, hc 1, hc 2, fun o => World.frozen?_alloc_at _ _ _ o rfl, World.ownsRow_nil _ _ _ _, rfl, by simp, fun g hg => (by cases hg), Nat.le_refl _, fun t ht => (by cases ht), (Kp.refl w).alloc _⟩

theorem NwR.fin {w0 w wr : World} {r n : Nat} {v : Value} {X F : List Nat} {S : MS} (h : NwR w0 w wr r n v X F S) (K : Kp w0 w) (e2 : 1 ≤ n) (gd : Gd ⟨none, 0, 0, List.replicate n S⟩) : ∃ r' T, (.returned (.pointer (some ⟨r, 0, none⟩)) : Ending) = .returned (.pointer (some ⟨r', 0, none⟩)) ∧ Dw w0 wr r' T ⟨none, 0, 0, List.replicate n S⟩ ∧ Kp w wr ∧ (∀ t, t ∈ T → w.heap.size ≤ t) := by
  have hl : (List.replicate n S).length = n := by simp
  have hx := h.len
  obtain ⟨a, g, cap, h1, h2, h3, h4, h5⟩ := h.o.shape
  rw [pv_len, hx] at h1 h2 h4 h5
  obtain ⟨rfl, g1, g2⟩ := h4 (by omega)
  have hb : v.ownBlock = some g := by rw [h1]; rfl
  obtain ⟨n5, n6⟩ := h.n2 g hb
  refine ⟨r, r :: g :: F, rfl, ⟨g, cap, X, F, rfl, ⟨h.hr, g2, by rw [hl, ← h1]; exact h.c0, h.c1, h.c2, h.z, by rw [hl]; exact h2, h3, fun k hk => (by cases hk), fun i hi => ?_, h.fam, h.n1, n5, fun e => n6 e.symm, Nat.le_trans K.size h.hrw, Nat.le_trans K.size g1, gd⟩⟩, h.kp, fun t ht => ?_⟩
  · have hi2 : i < n := by rw [← hl]; exact hi
    rw [h5 i hi2]
    exact pv_at X i (by omega)
  · simp only [List.mem_cons] at ht
    rcases ht with rfl | rfl | ht
    · exact h.hrw
    · exact g1
    · exact h.fn t ht

set_option maxRecDepth 100000 in
set_option maxHeartbeats 1000000 in
theorem dw_newN (n : Nat) (e2 : 1 ≤ n) (e3 : n ≤ 32) (a s : Int) (ha : min (max a 1) 32 = (n : Int)) (w0 w : World) (K : Kp w0 w) : Calls Tryz.prog 13 #[.int .i64 a, .int .i64 s] w fun e w' => ∃ r T, e = .returned (.pointer (some ⟨r, 0, none⟩)) ∧ Dw w0 w' r T (nwB a s) ∧ Kp w w' ∧ (∀ t, t ∈ T → w.heap.size ≤ t) := by
  have hgd := Gd.new a s
  obtain ⟨S, hS⟩ : ∃ S, S = nw (nwN s) := ⟨_, rfl⟩
  have eB : nwB a s = ⟨none, 0, 0, List.replicate n S⟩ := by unfold nwB; rw [hS, show (min (max a 1) 32).toNat = n by omega]
  rw [eB] at hgd ⊢
  obtain ⟨BB, hBB⟩ : ∃ BB : BS, BB = ⟨none, 0, 0, List.replicate n S⟩ := ⟨_, rfl⟩
  rw [← hBB]
  have HBB := hid hBB
  clear hBB
  have H0 : Hid (NwR w0 w _ w.heap.size 0 (.slice none 0 0) [] [] S) := NwR.start (w0 := w0) (w := w)
  have HG := hid hgd
  have hnew : ∀ W, Kp w0 W → Calls Tryz.prog 47 #[.int .i64 s] W fun e w' => ∃ b T, e = .returned (.pointer (some ⟨b, 0, none⟩)) ∧ Rw w0 w' b T S ∧ Kp W w' ∧ (∀ t, t ∈ T → W.heap.size ≤ t) := fun W hW => by rw [hS]; exact rw_new s w0 W hW
  clear hgd eB hS
  obtain ⟨r, hr⟩ : ∃ r, r = w.heap.size := ⟨_, rfl⟩
  obtain ⟨W, hW⟩ : ∃ W, W = w.alloc (.cells #[.slice none 0 0, .int .i64 0, .int .i64 (-1)] 47) := ⟨_, rfl⟩
  rw [← hW, ← hr] at H0
  have HW := hid hW
  have HR := hid hr
  clear hW hr
  have hcase : (a < 1 ∧ n = 1) ∨ (¬ a < 1 ∧ 32 < a ∧ n = 32) ∨ (¬ a < 1 ∧ ¬ 32 < a ∧ a = (n : Int)) := by omega
  clear ha
  rcases hcase with ⟨h1, rfl⟩ | ⟨h1, h2, rfl⟩ | ⟨h1, h2, rfl⟩
  · go_enter Tryz.func13, Tryz.ntmps13
    go_wp2_with fail
    rw [← HW.out, ← HR.out]
    clear HW HR
    go_loopw [6] (fun i wr => ∃ k v X F, k ≤ 1 ∧ i = .int .i64 (k : Nat) ∧ Hid (NwR w0 w wr r k v X F S)) (fun i _ => 1 - (intOf i).toNat)
    case atStart => exact ⟨0, _, [], [], by omega, by go_num, H0⟩
    case round =>
      clear H0
      obtain ⟨k, v, X, F, hk, rfl, HL⟩ := hrel
      by_cases hlt : k < 1
      · have hN := hnew wr (K.trans HL.out.kp)
        have hlt2 : (k : Int) < 1 := by omega
        go_wp2_with fail
        refine hN.mono ?_
        rintro e w1 ⟨x, P, rfl, hO, kO, hP⟩
        have c0 := kO.held HL.out.c0
        have z0 : w1.frozen? ⟨r, 0, none⟩ = false := ((kO.sp []).frozen HL.out.hr (by simp) 0).trans (HL.out.z 0)
        have HOr : Hid (OR w1 w.heap.size 44 v (pv X)) := HL.out.o.kp kO
        have hsz : w.heap.size ≤ w1.heap.size := (HL.out.kp.trans kO).size
        have HLn : Hid ((pv X).length ≤ 32) := by show (pv X).length ≤ 32; rw [pv_len, HL.out.len]; omega
        have hvo : ∀ V ob, (w1.alloc ob).grownBy V v.ownBlock → V.cell? ⟨r, 0, none⟩ = some v ∧ V.frozen? ⟨r, 0, none⟩ = false := fun V ob hg => by
          have s13 : Sp v.ownBlock.toList w1 V := (((Kp.refl w1).alloc ob).sp _).trans (Sp.grown hg)
          have hrv : r ∉ v.ownBlock.toList := fun hm => (HL.out.n2 r (by simpa using hm)).2 rfl
          exact ⟨s13.held c0 hrv, (s13.frozen (World.block_lt_of_cell? _ _ c0) hrv 0).trans z0⟩
        have HHO := hid hO
        have HKO := hid kO
        have HHP := hid hP
        obtain ⟨va, vg, vc, hvv, q1, q2, _, _⟩ := HOr.out.shape
        have HVV := hid hvv
        clear hO kO hP hN hvv
        go_wp2_with (at_builtin; refine wpList_append_or2 rfl _ _ 45 44 (.pointer none) 8 Tryz.underlying45 info_rp rfl (by omega) rfl w.heap.size _ _ rfl (HOr.out.kp ((Kp.refl w1).alloc (.cells #[.pointer (some ⟨x, 0, none⟩)] 44))) (.pointer (some ⟨x, 0, none⟩)) rfl _ rfl (by rw [World.cell?_alloc_at _ _ _ _ rfl]; rfl) (by have := HLn.out; omega) (by simp; omega) ?_)
        intro v' w3 ho3 hg3 hb3
        have HN3 := hid (HL.out.more HHO.out HKO.out HHP.out ho3 hg3 hb3)
        obtain ⟨c3, z3⟩ := hvo w3 _ hg3
        have hv3 : ∃ a3 L3 cap3, v' = .slice a3 L3 cap3 := by
          obtain ⟨a3, g3, cap3, hv3, _⟩ := ho3.shape
          exact ⟨_, _, _, hv3⟩
        obtain ⟨a3, L3, cap3, hv3⟩ := hv3
        clear ho3 hg3 hb3 hvo HHO HKO HHP HOr HL
        subst hv3
        go_wp2
        go_roundw
        case rel => exact ⟨k + 1, _, _, _, by omega, by go_num, HN3⟩
        case measure => simp [intOf]; omega
      · obtain rfl : k = 1 := by omega
        have hL := HL.out
        have hlt2 : ¬ ((1 : Nat) : Int) < 1 := by omega
        have hq : Hid (∃ r' T, (.returned (.pointer (some ⟨r, 0, none⟩)) : Ending) = .returned (.pointer (some ⟨r', 0, none⟩)) ∧ Dw w0 wr r' T BB ∧ Kp w wr ∧ (∀ t, t ∈ T → w.heap.size ≤ t)) := by rw [HBB.out]; exact hL.fin K e2 HG.out
        clear hL HL
        go_wp2
        go_ret
        obtain ⟨r', T', p1, p2, p3, p4⟩ := hq.out
        cases p1
        exact ⟨_, rfl, _, p2, p3, p4⟩
  · go_enter Tryz.func13, Tryz.ntmps13
    go_wp2_with fail
    rw [← HW.out, ← HR.out]
    clear HW HR
    go_loopw [6] (fun i wr => ∃ k v X F, k ≤ 32 ∧ i = .int .i64 (k : Nat) ∧ Hid (NwR w0 w wr r k v X F S)) (fun i _ => 32 - (intOf i).toNat)
    case atStart => exact ⟨0, _, [], [], by omega, by go_num, H0⟩
    case round =>
      clear H0
      obtain ⟨k, v, X, F, hk, rfl, HL⟩ := hrel
      by_cases hlt : k < 32
      · have hN := hnew wr (K.trans HL.out.kp)
        have hlt2 : (k : Int) < 32 := by omega
        go_wp2_with fail
        refine hN.mono ?_
        rintro e w1 ⟨x, P, rfl, hO, kO, hP⟩
        have c0 := kO.held HL.out.c0
        have z0 : w1.frozen? ⟨r, 0, none⟩ = false := ((kO.sp []).frozen HL.out.hr (by simp) 0).trans (HL.out.z 0)
        have HOr : Hid (OR w1 w.heap.size 44 v (pv X)) := HL.out.o.kp kO
        have hsz : w.heap.size ≤ w1.heap.size := (HL.out.kp.trans kO).size
        have HLn : Hid ((pv X).length ≤ 32) := by show (pv X).length ≤ 32; rw [pv_len, HL.out.len]; omega
        have hvo : ∀ V ob, (w1.alloc ob).grownBy V v.ownBlock → V.cell? ⟨r, 0, none⟩ = some v ∧ V.frozen? ⟨r, 0, none⟩ = false := fun V ob hg => by
          have s13 : Sp v.ownBlock.toList w1 V := (((Kp.refl w1).alloc ob).sp _).trans (Sp.grown hg)
          have hrv : r ∉ v.ownBlock.toList := fun hm => (HL.out.n2 r (by simpa using hm)).2 rfl
          exact ⟨s13.held c0 hrv, (s13.frozen (World.block_lt_of_cell? _ _ c0) hrv 0).trans z0⟩
        have HHO := hid hO
        have HKO := hid kO
        have HHP := hid hP
        obtain ⟨va, vg, vc, hvv, q1, q2, _, _⟩ := HOr.out.shape
        have HVV := hid hvv
        clear hO kO hP hN hvv
        go_wp2_with (at_builtin; refine wpList_append_or2 rfl _ _ 45 44 (.pointer none) 8 Tryz.underlying45 info_rp rfl (by omega) rfl w.heap.size _ _ rfl (HOr.out.kp ((Kp.refl w1).alloc (.cells #[.pointer (some ⟨x, 0, none⟩)] 44))) (.pointer (some ⟨x, 0, none⟩)) rfl _ rfl (by rw [World.cell?_alloc_at _ _ _ _ rfl]; rfl) (by have := HLn.out; omega) (by simp; omega) ?_)
        intro v' w3 ho3 hg3 hb3
        have HN3 := hid (HL.out.more HHO.out HKO.out HHP.out ho3 hg3 hb3)
        obtain ⟨c3, z3⟩ := hvo w3 _ hg3
        have hv3 : ∃ a3 L3 cap3, v' = .slice a3 L3 cap3 := by
          obtain ⟨a3, g3, cap3, hv3, _⟩ := ho3.shape
          exact ⟨_, _, _, hv3⟩
        obtain ⟨a3, L3, cap3, hv3⟩ := hv3
        clear ho3 hg3 hb3 hvo HHO HKO HHP HOr HL
        subst hv3
        go_wp2
        go_roundw
        case rel => exact ⟨k + 1, _, _, _, by omega, by go_num, HN3⟩
        case measure => simp [intOf]; omega
      · obtain rfl : k = 32 := by omega
        have hL := HL.out
        have hlt2 : ¬ ((32 : Nat) : Int) < 32 := by omega
        have hq : Hid (∃ r' T, (.returned (.pointer (some ⟨r, 0, none⟩)) : Ending) = .returned (.pointer (some ⟨r', 0, none⟩)) ∧ Dw w0 wr r' T BB ∧ Kp w wr ∧ (∀ t, t ∈ T → w.heap.size ≤ t)) := by rw [HBB.out]; exact hL.fin K e2 HG.out
        clear hL HL
        go_wp2
        go_ret
        obtain ⟨r', T', p1, p2, p3, p4⟩ := hq.out
        cases p1
        exact ⟨_, rfl, _, p2, p3, p4⟩
  · go_enter Tryz.func13, Tryz.ntmps13
    go_wp2_with fail
    rw [← HW.out, ← HR.out]
    clear HW HR
    go_loopw [6] (fun i wr => ∃ k v X F, k ≤ n ∧ i = .int .i64 (k : Nat) ∧ Hid (NwR w0 w wr r k v X F S)) (fun i _ => n - (intOf i).toNat)
    case atStart => exact ⟨0, _, [], [], by omega, by go_num, H0⟩
    case round =>
      clear H0
      obtain ⟨k, v, X, F, hk, rfl, HL⟩ := hrel
      by_cases hlt : k < n
      · have hN := hnew wr (K.trans HL.out.kp)
        have hlt2 : (k : Int) < (n : Int) := by omega
        go_wp2_with fail
        refine hN.mono ?_
        rintro e w1 ⟨x, P, rfl, hO, kO, hP⟩
        have c0 := kO.held HL.out.c0
        have z0 : w1.frozen? ⟨r, 0, none⟩ = false := ((kO.sp []).frozen HL.out.hr (by simp) 0).trans (HL.out.z 0)
        have HOr : Hid (OR w1 w.heap.size 44 v (pv X)) := HL.out.o.kp kO
        have hsz : w.heap.size ≤ w1.heap.size := (HL.out.kp.trans kO).size
        have HLn : Hid ((pv X).length ≤ 32) := by show (pv X).length ≤ 32; rw [pv_len, HL.out.len]; omega
        have hvo : ∀ V ob, (w1.alloc ob).grownBy V v.ownBlock → V.cell? ⟨r, 0, none⟩ = some v ∧ V.frozen? ⟨r, 0, none⟩ = false := fun V ob hg => by
          have s13 : Sp v.ownBlock.toList w1 V := (((Kp.refl w1).alloc ob).sp _).trans (Sp.grown hg)
          have hrv : r ∉ v.ownBlock.toList := fun hm => (HL.out.n2 r (by simpa using hm)).2 rfl
          exact ⟨s13.held c0 hrv, (s13.frozen (World.block_lt_of_cell? _ _ c0) hrv 0).trans z0⟩
        have HHO := hid hO
        have HKO := hid kO
        have HHP := hid hP
        obtain ⟨va, vg, vc, hvv, q1, q2, _, _⟩ := HOr.out.shape
        have HVV := hid hvv
        clear hO kO hP hN hvv
        go_wp2_with (at_builtin; refine wpList_append_or2 rfl _ _ 45 44 (.pointer none) 8 Tryz.underlying45 info_rp rfl (by omega) rfl w.heap.size _ _ rfl (HOr.out.kp ((Kp.refl w1).alloc (.cells #[.pointer (some ⟨x, 0, none⟩)] 44))) (.pointer (some ⟨x, 0, none⟩)) rfl _ rfl (by rw [World.cell?_alloc_at _ _ _ _ rfl]; rfl) (by have := HLn.out; omega) (by simp; omega) ?_)
        intro v' w3 ho3 hg3 hb3
        have HN3 := hid (HL.out.more HHO.out HKO.out HHP.out ho3 hg3 hb3)
        obtain ⟨c3, z3⟩ := hvo w3 _ hg3
        have hv3 : ∃ a3 L3 cap3, v' = .slice a3 L3 cap3 := by
          obtain ⟨a3, g3, cap3, hv3, _⟩ := ho3.shape
          exact ⟨_, _, _, hv3⟩
        obtain ⟨a3, L3, cap3, hv3⟩ := hv3
        clear ho3 hg3 hb3 hvo HHO HKO HHP HOr HL
        subst hv3
        go_wp2
        go_roundw
        case rel => exact ⟨k + 1, _, _, _, by omega, by go_num, HN3⟩
        case measure => simp [intOf]; omega
      · obtain rfl : k = n := by omega
        have hL := HL.out
        have hlt2 : ¬ ((k : Nat) : Int) < (k : Int) := by omega
        have hq : Hid (∃ r' T, (.returned (.pointer (some ⟨r, 0, none⟩)) : Ending) = .returned (.pointer (some ⟨r', 0, none⟩)) ∧ Dw w0 wr r' T BB ∧ Kp w wr ∧ (∀ t, t ∈ T → w.heap.size ≤ t)) := by rw [HBB.out]; exact hL.fin K e2 HG.out
        clear hL HL
        go_wp2
        go_ret
        obtain ⟨r', T', p1, p2, p3, p4⟩ := hq.out
        cases p1
        exact ⟨_, rfl, _, p2, p3, p4⟩
theorem dw_new (a s : Int) (w0 w : World) (K : Kp w0 w) : Calls Tryz.prog 13 #[.int .i64 a, .int .i64 s] w fun e w' => ∃ r T, e = .returned (.pointer (some ⟨r, 0, none⟩)) ∧ Dw w0 w' r T (nwB a s) ∧ Kp w w' ∧ (∀ t, t ∈ T → w.heap.size ≤ t) :=
  dw_newN (min (max a 1) 32).toNat (by omega) (by omega) a s (by omega) w0 w K

end Go.Proofs.YtinpkfdmellleaaGreat
