/-
  A bay before Format: sectors that hold no label; what writes, Fail and Open make of that. No condition.
-/
import Derived.Test.YtinpkfdmellleaaGreatZBo
namespace Go.Proofs.YtinpkfdmellleaaGreat
open Go.RowKit Plain
set_option linter.unusedVariables false

theorem gt_no {t : ByteArray} (h : t.size = 64 → t.extract 0 4 ≠ pfx) : gtE t ≠ 0 := by rw [gtE_form (fun hh => h hh.1 hh.2)]; omega
theorem gt_noS : gtE noS ≠ 0 := gt_no (fun h => absurd h (by decide))
theorem gt_empty : gtE ByteArray.empty ≠ 0 := gt_no (fun h => absurd h (by decide))
/-- no sector holds a label. -/
structure Fz (B : BS) (z N k : Nat) : Prop where
  pw : B.pw = none
  len : B.ms.length = N
  ev : Ev B z
  no : ∀ i j, gtE (sec_ B i j) ≠ 0
  g : B.g ≤ k
theorem sec_new (n z i j : Nat) : gtE (((List.replicate n (nw z)).getD i noM).now.getD j noS) ≠ 0 := by
  have key : ∀ m j, gtE ((nw m).now.getD j noS) ≠ 0 := fun m j => by
    unfold nw
    by_cases h : j < m
    · rw [show (List.replicate m z64).getD j noS = z64 by simp [List.getD_eq_getElem?_getD, h]]; exact gt_z64
    · rw [show (List.replicate m z64).getD j noS = noS by simp [List.getD_eq_getElem?_getD, h]]; exact gt_noS
  by_cases h : i < n
  · rw [show (List.replicate n (nw z)).getD i noM = nw z by simp [List.getD_eq_getElem?_getD, h]]; exact key _ _
  · rw [show (List.replicate n (nw z)).getD i noM = nw 1 by simp [List.getD_eq_getElem?_getD, h, noM]]; exact key _ _
theorem Fz.new (a s : Int) : Fz (nwB a s) (nwN s) (min (max a 1) 32).toNat 0 := by
  refine ⟨rfl, by simp [nwB], fun i hi => ?_, fun i j => sec_new _ _ i j, Nat.le_refl _⟩
  have h : i < (min (max a 1) 32).toNat := by simpa [nwB] using hi
  rw [show (nwB a s).ms.getD i noM = nw (nwN s) by simp [nwB, List.getD_eq_getElem?_getD, h]]
  exact ⟨by simp [nw], by simp [nw]⟩
theorem Fz.more {B : BS} {z N k l : Nat} (h : Fz B z N k) (hl : k ≤ l) : Fz B z N l := ⟨h.pw, h.len, h.ev, h.no, Nat.le_trans h.g hl⟩
theorem sec_set {ms : List MS} {i : Nat} {S : MS} (i' j : Nat) (hS : ∀ j, gtE (S.now.getD j noS) ≠ 0) (h : ∀ i j, gtE ((ms.getD i noM).now.getD j noS) ≠ 0) : gtE (((ms.set i S).getD i' noM).now.getD j noS) ≠ 0 := by
  by_cases e : i' = i
  · subst e
    by_cases hi : i' < ms.length
    · rw [getD_set_eq hi]; exact hS j
    · rw [show (ms.set i' S).getD i' noM = ms.getD i' noM by simp [List.getD_eq_getElem?_getD, hi]]; exact h _ _
  · rw [show (ms.set i S).getD i' noM = ms.getD i' noM by simp [List.getD_eq_getElem?_getD, Ne.symm e]]; exact h _ _
theorem ev_set {ms : List MS} {i z : Nat} {S : MS} (hS : i < ms.length → S.las.length = z ∧ S.now.length = z) (h : ∀ i, i < ms.length → (ms.getD i noM).las.length = z ∧ (ms.getD i noM).now.length = z) : ∀ i', i' < (ms.set i S).length → ((ms.set i S).getD i' noM).las.length = z ∧ ((ms.set i S).getD i' noM).now.length = z := fun i' hi => by
  rw [List.length_set] at hi
  by_cases e : i' = i
  · subst e; rw [getD_set_eq hi]; exact hS hi
  · rw [show (ms.set i S).getD i' noM = ms.getD i' noM by simp [List.getD_eq_getElem?_getD, Ne.symm e]]; exact h _ hi
theorem Fz.write {B : BS} {z N k : Nat} (h : Fz B z N k) (i a : Int) (t : ByteArray) (ht : gtE t ≠ 0) : Fz (opS B i (fun S => wr S a t)) z N (k + 1) := by
  have hg := h.g
  by_cases hi : fdE B i = 0
  · rw [op_S h.pw hi]
    have hw : ∀ S : MS, (wr S a t).las = S.las ∧ (wr S a t).now.length = S.now.length ∧ ((∀ j, gtE (S.now.getD j noS) ≠ 0) → ∀ j, gtE ((wr S a t).now.getD j noS) ≠ 0) := fun S => by
      unfold wr
      split
      · refine ⟨rfl, by simp, fun h j => ?_⟩
        show gtE ((S.now.set a.toNat t).getD j noS) ≠ 0
        by_cases e : j = a.toNat
        · subst e
          by_cases hj : a.toNat < S.now.length
          · rw [getD_set_eq hj]; exact ht
          · rw [show (S.now.set a.toNat t).getD a.toNat noS = noS by simp [List.getD_eq_getElem?_getD, hj]]; exact gt_noS
        · rw [show (S.now.set a.toNat t).getD j noS = S.now.getD j noS by simp [List.getD_eq_getElem?_getD, Ne.symm e]]; exact h j
      · exact ⟨rfl, rfl, id⟩
    refine ⟨rfl, by simpa using h.len, ?_, fun i' j => ?_, by show B.g + 1 ≤ k + 1; omega⟩
    · exact ev_set (fun hl => by rw [(hw _).1, (hw _).2.1]; exact h.ev _ hl) h.ev
    · exact sec_set i' j ((hw _).2.2 (fun j => h.no i.toNat j)) h.no
  · have e : opS B i (fun S => wr S a t) = ⟨B.pw, B.md, B.g + 1, B.ms⟩ := by
      have hs : stE B i ≠ 0 := by unfold stE; rw [if_neg hi]; omega
      unfold opS
      rw [if_neg hs]
      unfold stS
      rw [if_neg hs]
    rw [e]
    exact ⟨h.pw, h.len, h.ev, h.no, by show B.g + 1 ≤ k + 1; omega⟩
theorem Fz.fail {B : BS} {z N k : Nat} (h : Fz B z N k) (i : Int) : Fz (put B i (fa (bm B i))) z N k :=
  ⟨h.pw, by simpa [put] using h.len, ev_set (fun hl => h.ev _ hl) h.ev, fun i' j => sec_set i' j (fun j => h.no i.toNat j) h.no, h.g⟩

/-! ### Open finds none -/
def RI (r : RS) : Prop := (∀ i j, gtE (sec_ r.1 i j) ≠ 0) ∧ ∀ t ∈ r.2.1, gtE t ≠ 0
theorem r1_ri {r : RS} (h : RI r) (i : Nat) (a : Int) : RI (r1 i a r) := by
  unfold r1
  split
  · exact h
  · refine ⟨fun i' j => ?_, fun t ht => ?_⟩
    · show gtE (sec_ (rdB r.1 i a) i' j) ≠ 0
      unfold rdB
      split
      · refine sec_set i' j (fun j => ?_) h.1
        have : (rd (bm r.1 (i : Int)) a).now = (bm r.1 (i : Int)).now := by unfold rd; split <;> rfl
        rw [this]
        exact h.1 _ j
      · exact h.1 i' j
    · have ht' : t ∈ (if rdE r.1 i a = 0 then r.2.1 ++ [rdT r.1 i a] else r.2.1) := ht
      split at ht'
      · rcases List.mem_append.1 ht' with h1 | h1
        · exact h.2 t h1
        · rw [List.mem_singleton.1 h1]
          unfold rdT rdS
          split
          · split
            · exact h.1 _ _
            · exact gt_empty
          · exact gt_empty
      · exact h.2 t ht'
theorem rdF_ri {B : BS} (h : ∀ i j, gtE (sec_ B i j) ≠ 0) (l : List Nat) : RI (rdF l B) := by
  unfold rdF
  have key : ∀ (l : List Nat) (r : RS), RI r → RI (l.foldl r2 r) := by
    intro l
    induction l with
    | nil => exact fun r h => h
    | cons i l ih => exact fun r h => ih _ (r1_ri (r1_ri h i 0) i 1)
  exact key l _ ⟨h, fun t ht => by cases ht⟩
theorem nw_none_ {l : List ByteArray} (h : ∀ t ∈ l, gtE t ≠ 0) : ∀ k, nwL l k = noL ∧ nwF l k = false
  | 0 => ⟨rfl, rfl⟩
  | k + 1 => by
    obtain ⟨h1, h2⟩ := nw_none_ h k
    have hk : gtE (l.getD k noS) ≠ 0 := by
      by_cases hk : k < l.length
      · rw [List.getD_eq_getElem?_getD, List.getElem?_eq_getElem hk]; exact h _ (List.getElem_mem hk)
      · rw [show l.getD k noS = noS by simp [List.getD_eq_getElem?_getD, hk]]; exact gt_noS
    unfold nwL nwF
    rw [if_neg (fun hh => hk hh.1), if_neg (fun hh => hk hh.1)]
    exact ⟨h1, h2⟩
theorem opn_no {B : BS} {z N k : Nat} (h : Fz B z N k) : (opnL B).ep = 0 ∧ opnE B ≠ 0 := by
  have hr := rdF_ri h.no (lvL 0 B.ms)
  obtain ⟨h1, h2⟩ := nw_none_ hr.2 (rdF (lvL 0 B.ms) B).2.1.length
  have hX : opnX B ≠ 0 := by
    unfold opnX
    rw [h2]
    split
    · omega
    · split
      · omega
      · simp
  refine ⟨by unfold opnL; rw [h1]; rfl, ?_⟩
  unfold opnE
  rw [if_neg hX]
  exact hX

end Go.Proofs.YtinpkfdmellleaaGreat
