/-
  A queue that is filled beside a map of texts, and drained: plain facts. No condition.
-/
import Derived.Test.YtdfdoinhkjoalaaQuMap
namespace Go.Proofs.Ytdfdoinhkjoalaa
open Go.RowKit Plain
set_option linter.unusedVariables false

/-- a queue and what it is to tell: texts by blocks; ages unlike, all behind one. -/
structure Dr (S : QS) (F : Int → Option ByteArray) (c : Nat) (last : Int) : Prop where
  g : Qg S
  f : ∀ x ∈ S.L, F x.b = some x.d
  n : S.L.length = c
  z : ∀ x ∈ S.L, x.d.size = 64
  a : ∀ x ∈ S.L, last < x.g ∧ x.g < S.c
  u : ∀ x ∈ S.L, ∀ y ∈ S.L, x.g = y.g → x.b = y.b
  r : ∀ x ∈ S.L, 0 ≤ x.b ∧ x.b < 1099511627776
theorem Dr.new (m : Int) : Dr ⟨[], qm m, 0⟩ (fun _ => none) 0 (-1) := ⟨Qg.new m, by simp, rfl, by simp, by simp, by simp, by simp⟩
theorem pt_range {S : QS} {b : Int} {d : ByteArray} (e : ptE S b d = 0) : 0 ≤ b ∧ b < 1099511627776 ∧ d.size = 64 := by
  unfold ptE at e
  split at e
  · cases e
  · split at e
    · cases e
    · omega
/-- what is in the list behind a Put. -/
theorem put_mem {l : List It} (hs : Sr l) {b : Int} {d : ByteArray} {g : Int} {x : It} (h : x ∈ putL b d g l) : x = ⟨b, d, agI l b g⟩ ∨ (x ∈ l ∧ x.b ≠ b) := by
  obtain ⟨p1, _, p3⟩ := put_all hs b d g
  have h1 := get_of p1 h
  rw [p3] at h1
  by_cases hx : x.b = b
  · rw [if_pos hx] at h1
    exact .inl (Option.some.inj h1).symm
  · rw [if_neg hx] at h1
    exact .inr ⟨(get_mem h1).1, hx⟩
theorem del_mem {l : List It} (hs : Sr l) {b : Int} {x : It} (h : x ∈ delL l b) : x ∈ l ∧ x.b ≠ b := by
  unfold delL at h
  rw [List.mem_filter] at h
  exact ⟨h.1, by simpa using h.2⟩
theorem ag_cases (l : List It) (b g : Int) : agI l b g = g ∨ ∃ y ∈ l, y.b = b ∧ agI l b g = y.g := by
  unfold agI
  cases h : getL l b with
  | none => exact .inl rfl
  | some y => exact .inr ⟨y, (get_mem h).1, (get_mem h).2, rfl⟩
/-- the texts that a map has are those of the queue's blocks. -/
def Fq (S : QS) (F : Int → Option ByteArray) : Prop := ∀ b, (F b).isSome = hsI S.L b
theorem Dr.put {S : QS} {F : Int → Option ByteArray} {c : Nat} (h : Dr S F c (-1)) (hF : Fq S F) {b : Int} {d : ByteArray} (e : ptE S b d = 0) (hc : S.c + 1 ≤ 1000000000) :
    Dr (ptS S b d) (fun j => if j = b then some d else F j) (if (F b).isSome = true then c else c + 1) (-1) ∧ Fq (ptS S b d) (fun j => if j = b then some d else F j) := by
  have hg := h.g.put e hc
  obtain ⟨p1, p2, p3⟩ := put_all h.g.sr b d S.c
  obtain ⟨q1, q2, q3⟩ := pt_range e
  rw [pt_ok e] at hg ⊢
  have hag : -1 < agI S.L b S.c ∧ agI S.L b S.c < S.c + 1 := by
    rcases ag_cases S.L b S.c with h1 | ⟨y, hy, _, h1⟩
    · rw [h1]; have := h.g.c0; omega
    · rw [h1]; have := h.a y hy; omega
  refine ⟨⟨hg, fun x hx => ?_, ?_, fun x hx => ?_, fun x hx => ?_, fun x hx y hy => ?_, fun x hx => ?_⟩, fun j => ?_⟩
  · rcases put_mem h.g.sr hx with rfl | ⟨h1, h2⟩
    · exact if_pos rfl
    · show (if x.b = b then some d else F x.b) = some x.d
      rw [if_neg h2]; exact h.f x h1
  · show (putL b d S.c S.L).length = _
    rw [p2, hF b, h.n]
  · rcases put_mem h.g.sr hx with rfl | ⟨h1, h2⟩
    · exact q3
    · exact h.z x h1
  · show -1 < x.g ∧ x.g < S.c + 1
    rcases put_mem h.g.sr hx with rfl | ⟨h1, h2⟩
    · exact hag
    · have := h.a x h1; omega
  · intro e2
    have key : ∀ z : It, z ∈ S.L → z.b ≠ b → agI S.L b S.c = z.g → b = z.b := fun z hz hzb he => by
      rcases ag_cases S.L b S.c with h3 | ⟨v, hv, hvb, h3⟩
      · have := h.a z hz; omega
      · rw [h3] at he
        have := h.u v hv z hz he
        omega
    rcases put_mem h.g.sr hx with rfl | ⟨h1, h2⟩ <;> rcases put_mem h.g.sr hy with rfl | ⟨h3, h4⟩
    · rfl
    · exact key y h3 h4 e2
    · exact (key x h1 h2 e2.symm).symm
    · exact h.u x h1 y h3 e2
  · rcases put_mem h.g.sr hx with rfl | ⟨h1, h2⟩
    · exact ⟨q1, q2⟩
    · exact h.r x h1
  · show (if j = b then some d else F j).isSome = hsI (putL b d S.c S.L) j
    rw [hs_get, p3]
    by_cases hj : j = b
    · rw [if_pos hj, if_pos hj]; rfl
    · rw [if_neg hj, if_neg hj, ← hs_get]; exact hF j
/-- the oldest, and the queue without it. -/
theorem Dr.next {S : QS} {F : Int → Option ByteArray} {c : Nat} {last : Int} (h : Dr S F (c + 1) last) : gtI S.L (olI S.L).b = olI S.L ∧ hsI S.L (olI S.L).b = true ∧ last < (olI S.L).g ∧ F (olI S.L).b = some (olI S.L).d ∧ (olI S.L).d.size = 64 ∧ (0 ≤ (olI S.L).b ∧ (olI S.L).b < 1099511627776) ∧ Dr ⟨delL S.L (olI S.L).b, S.m, S.c⟩ F c (olI S.L).g := by
  have hl : 0 < S.L.length := by rw [h.n]; omega
  obtain ⟨m1, m2⟩ := ol_mem hl
  obtain ⟨x, hx⟩ : ∃ x, x = olI S.L := ⟨_, rfl⟩
  rw [← hx] at m1 m2 ⊢
  have hg := get_of h.g.sr m1
  have hh : hsI S.L x.b = true := by rw [hs_get, hg]; rfl
  obtain ⟨p1, p2, p3⟩ := del_all h.g.sr x.b
  rw [if_pos hh, h.n] at p2
  refine ⟨by unfold gtI; rw [hg]; rfl, hh, (h.a x m1).1, h.f x m1, h.z x m1, h.r x m1, h.g.take x.b, fun y hy => h.f y (del_mem h.g.sr hy).1, by show (delL S.L x.b).length = c; omega, fun y hy => h.z y (del_mem h.g.sr hy).1, fun y hy => ?_, fun y hy z hz => h.u y (del_mem h.g.sr hy).1 z (del_mem h.g.sr hz).1, fun y hy => h.r y (del_mem h.g.sr hy).1⟩
  obtain ⟨h1, h2⟩ := del_mem h.g.sr hy
  have h3 := m2 y h1
  refine ⟨?_, (h.a y h1).2⟩
  by_cases e : x.g = y.g
  · exact absurd (h.u x m1 y h1 e) (fun e => h2 e.symm)
  · omega

end Go.Proofs.Ytdfdoinhkjoalaa
