/-
  A turn as plain data (TS), and what its calls make of it. Plain facts; no condition.
-/
import Derived.Test.YtncdidklgpmefaaDoorTuDel
namespace Go.Proofs.YtncdidklgpmefaaDoor
open Go.RowKit Plain
set_option linter.unusedVariables false

def iOk (i : Int) : Prop := -9223372036854775808 ≤ i ∧ i ≤ 9223372036854775807
/-- a turn's state: its plain keys, its dear ones, for how many, of them dear, which are pinned, how often its map was written. -/
structure TS where
  P : List Int
  D : List Int
  M : Int
  Z : Int
  K : Int → Bool
  n : Nat
def setK (K : Int → Bool) (k : Int) (b : Bool) : Int → Bool := fun j => if j = k then b else K j
/-- is the key there? -/
def inT (S : TS) (k : Int) : Bool := decide (k ∈ S.P ++ S.D)
theorem in_iff {S : TS} {k : Int} : inT S k = true ↔ k ∈ S.P ++ S.D := by unfold inT; simp
theorem in_not {S : TS} {k : Int} : inT S k = false ↔ k ∉ S.P ++ S.D := by unfold inT; simp
/-- a key taken out. -/
def tkS (S : TS) (k : Int) : TS := { S with P := S.P.erase k, D := S.D.erase k }
/-- a dear row that is too long gives its first one back. -/
def bkS (S : TS) : TS := match S.D with
  | [] => S
  | f :: r => if S.Z < (S.D.length : Int) then { S with P := S.P ++ [f], D := r } else S
def dcS (S : TS) (k : Int) : TS := { S with D := S.D ++ [k] }
def toS (S : TS) (k : Int) : TS := if inT S k then bkS (dcS (tkS S k) k) else S
def adE (S : TS) (k : Int) : Int := if inT S k then 11 else if S.M ≤ (S.P.length : Int) + (S.D.length : Int) then 10 else 0
def adS (S : TS) (k : Int) : TS := if adE S k = 0 then { S with P := S.P ++ [k] } else S
def pnS (S : TS) (k : Int) (on : Bool) : TS := if inT S k then { S with K := setK S.K k on, n := S.n + 1 } else S
def drS (S : TS) (k : Int) : TS := if inT S k then { tkS S k with K := setK S.K k false } else S
def vcO (S : TS) : Option Int := (S.P ++ S.D).find? (fun k => !S.K k)
def vcK (S : TS) : Int := (vcO S).getD 0
def newT (M Z : Int) : TS := ⟨[], [], M, Z, fun _ => false, 0⟩
/-- as turns come. -/
structure Gd (S : TS) : Prop where
  m1 : 1 ≤ S.M
  m2 : S.M ≤ 64
  z0 : 0 ≤ S.Z
  z1 : S.Z < S.M
  len : (S.P.length : Int) + (S.D.length : Int) ≤ S.M
  dl : (S.D.length : Int) ≤ S.Z
  nd : (S.P ++ S.D).Nodup
  kin : ∀ k, S.K k = true → k ∈ S.P ++ S.D
  ok : ∀ k ∈ S.P ++ S.D, iOk k
theorem Gd.new {M Z : Int} (h1 : 1 ≤ M) (h2 : M ≤ 64) (h3 : 0 ≤ Z) (h4 : Z < M) : Gd (newT M Z) := ⟨h1, h2, h3, h4, by simp [newT]; omega, by simp [newT]; omega, by simp [newT], fun k h => by simp [newT] at h, fun k h => by simp [newT] at h⟩
theorem erase_out {l : List Int} {k : Int} (h : k ∉ l) : l.erase k = l := List.erase_of_not_mem h
theorem Gd.ndP {S : TS} (h : Gd S) : S.P.Nodup := (List.nodup_append.1 h.nd).1
theorem Gd.ndD {S : TS} (h : Gd S) : S.D.Nodup := (List.nodup_append.1 h.nd).2.1
theorem Gd.off {S : TS} (h : Gd S) {k : Int} (hp : k ∈ S.P) : k ∉ S.D := fun hd => (List.nodup_append.1 h.nd).2.2 k hp k hd rfl
theorem tk_perm {S : TS} (h : Gd S) {k : Int} (hk : k ∈ S.P ++ S.D) : (S.P ++ S.D).Perm (k :: ((tkS S k).P ++ (tkS S k).D)) := by
  show (S.P ++ S.D).Perm (k :: (S.P.erase k ++ S.D.erase k))
  by_cases hp : k ∈ S.P
  · rw [erase_out (h.off hp)]
    exact (List.perm_cons_erase hp).append_right _
  · have hd : k ∈ S.D := (List.mem_append.1 hk).resolve_left hp
    rw [erase_out hp]
    exact ((List.perm_cons_erase hd).append_left S.P).trans List.perm_middle
theorem bk_perm (S : TS) : ((bkS S).P ++ (bkS S).D).Perm (S.P ++ S.D) := by
  unfold bkS
  split
  · exact List.Perm.refl _
  · rename_i f r e
    split
    · show ((S.P ++ [f]) ++ r).Perm (S.P ++ S.D)
      rw [e, List.append_assoc]
      exact List.Perm.refl _
    · exact List.Perm.refl _
theorem dc_perm (S : TS) (k : Int) : ((dcS S k).P ++ (dcS S k).D).Perm (k :: (S.P ++ S.D)) := by
  show (S.P ++ (S.D ++ [k])).Perm _
  rw [← List.append_assoc]
  exact List.perm_append_singleton _ _
theorem to_perm {S : TS} (h : Gd S) (k : Int) : ((toS S k).P ++ (toS S k).D).Perm (S.P ++ S.D) := by
  unfold toS
  split
  · rename_i hi
    exact (bk_perm _).trans ((dc_perm _ _).trans (tk_perm h (in_iff.1 hi)).symm)
  · exact List.Perm.refl _
theorem bk_K (S : TS) : (bkS S).K = S.K ∧ (bkS S).M = S.M ∧ (bkS S).Z = S.Z ∧ (bkS S).n = S.n := by
  unfold bkS
  split
  · exact ⟨rfl, rfl, rfl, rfl⟩
  · split <;> exact ⟨rfl, rfl, rfl, rfl⟩
theorem bk_len (S : TS) (h : (S.D.length : Int) ≤ S.Z + 1) (h0 : 0 ≤ S.Z) : ((bkS S).D.length : Int) ≤ S.Z := by
  unfold bkS
  split
  · rename_i e; rw [e]; simpa using h0
  · rename_i f r e
    split
    · show (r.length : Int) ≤ S.Z
      rw [e, List.length_cons] at h
      omega
    · omega
theorem to_K (S : TS) (k : Int) : (toS S k).K = S.K ∧ (toS S k).M = S.M ∧ (toS S k).Z = S.Z ∧ (toS S k).n = S.n := by
  unfold toS
  split
  · obtain ⟨h1, h2, h3, h4⟩ := bk_K (dcS (tkS S k) k)
    exact ⟨h1, h2, h3, h4⟩
  · exact ⟨rfl, rfl, rfl, rfl⟩
theorem erase_le (l : List Int) (k : Int) : (l.erase k).length ≤ l.length := List.length_erase_le
theorem Gd.touch {S : TS} (h : Gd S) (k : Int) : Gd (toS S k) := by
  have hp := to_perm h k
  obtain ⟨h1, h2, h3, h4⟩ := to_K S k
  have hl := hp.length_eq
  rw [List.length_append, List.length_append] at hl
  have h5 := h.len
  refine ⟨by rw [h2]; exact h.m1, by rw [h2]; exact h.m2, by rw [h3]; exact h.z0, by rw [h2, h3]; exact h.z1, by rw [h2]; omega, ?_, hp.nodup_iff.2 h.nd, fun j hj => hp.mem_iff.2 (h.kin j (by rw [← h1]; exact hj)), fun j hj => h.ok j (hp.mem_iff.1 hj)⟩
  rw [h3]
  unfold toS
  split
  · refine bk_len _ ?_ h.z0
    show ((S.D.erase k ++ [k]).length : Int) ≤ S.Z + 1
    have := erase_le S.D k
    have := h.dl
    rw [List.length_append]
    simp
    omega
  · exact h.dl
theorem ad_iff {S : TS} {k : Int} : adE S k = 0 ↔ k ∉ S.P ++ S.D ∧ (S.P.length : Int) + (S.D.length : Int) < S.M := by
  unfold adE
  constructor
  · intro h
    split at h
    · cases h
    · rename_i h1
      split at h
      · cases h
      · rename_i h2
        exact ⟨in_not.1 (by simpa using h1), by omega⟩
  · rintro ⟨h1, h2⟩
    rw [if_neg (by rw [in_not.2 h1]; decide), if_neg (by omega)]
theorem ad_ok {S : TS} {k : Int} (e : adE S k = 0) : adS S k = { S with P := S.P ++ [k] } := by unfold adS; rw [if_pos e]
theorem ad_no {S : TS} {k : Int} (e : adE S k ≠ 0) : adS S k = S := by unfold adS; rw [if_neg e]
theorem ad_perm (S : TS) (k : Int) : ((S.P ++ [k]) ++ S.D).Perm (k :: (S.P ++ S.D)) := by
  rw [List.append_assoc]
  exact List.perm_middle
theorem Gd.add {S : TS} (h : Gd S) {k : Int} (hk : iOk k) : Gd (adS S k) := by
  by_cases e : adE S k = 0
  · rw [ad_ok e]
    obtain ⟨h1, h2⟩ := ad_iff.1 e
    have hp := ad_perm S k
    refine ⟨h.m1, h.m2, h.z0, h.z1, ?_, h.dl, hp.nodup_iff.2 (List.nodup_cons.2 ⟨h1, h.nd⟩), fun j hj => hp.mem_iff.2 (List.mem_cons_of_mem _ (h.kin j hj)), fun j hj => ?_⟩
    · show ((S.P ++ [k]).length : Int) + _ ≤ _
      rw [List.length_append]
      simp
      omega
    · rcases List.mem_cons.1 (hp.mem_iff.1 hj) with rfl | hj
      · exact hk
      · exact h.ok j hj
  · rw [ad_no e]; exact h
theorem Gd.pin {S : TS} (h : Gd S) (k : Int) (on : Bool) : Gd (pnS S k on) := by
  unfold pnS
  split
  · rename_i hi
    refine ⟨h.m1, h.m2, h.z0, h.z1, h.len, h.dl, h.nd, fun j hj => ?_, h.ok⟩
    by_cases e : j = k
    · subst e; exact in_iff.1 hi
    · have : setK S.K k on j = true := hj
      unfold setK at this
      rw [if_neg e] at this
      exact h.kin j this
  · exact h
theorem dr_len {S : TS} (h : Gd S) {k : Int} (hk : k ∈ S.P ++ S.D) : (tkS S k).P.length + (tkS S k).D.length + 1 = S.P.length + S.D.length := by
  have := (tk_perm h hk).length_eq
  rw [List.length_cons, List.length_append, List.length_append] at this
  omega
theorem Gd.drop {S : TS} (h : Gd S) (k : Int) : Gd (drS S k) := by
  unfold drS
  split
  · rename_i hi
    have hk := in_iff.1 hi
    have hp := tk_perm h hk
    have hl := dr_len h hk
    have hn := List.nodup_cons.1 (hp.nodup_iff.1 h.nd)
    have h5 := h.len
    refine ⟨h.m1, h.m2, h.z0, h.z1, ?_, ?_, hn.2, fun j hj => ?_, fun j hj => h.ok j (hp.mem_iff.2 (List.mem_cons_of_mem _ hj))⟩
    · show ((tkS S k).P.length : Int) + ((tkS S k).D.length : Int) ≤ S.M
      omega
    · show ((S.D.erase k).length : Int) ≤ S.Z
      have := erase_le S.D k
      have := h.dl
      omega
    · have hj2 : setK S.K k false j = true := hj
      unfold setK at hj2
      by_cases e : j = k
      · rw [if_pos e] at hj2; cases hj2
      · rw [if_neg e] at hj2
        rcases List.mem_cons.1 (hp.mem_iff.1 (h.kin j hj2)) with rfl | hm
        · exact absurd rfl e
        · exact hm
  · exact h
theorem Gd.take {S : TS} (h : Gd S) {k : Int} (hk : k ∈ S.P ++ S.D) : k ∉ (tkS S k).P ++ (tkS S k).D := (List.nodup_cons.1 ((tk_perm h hk).nodup_iff.1 h.nd)).1
/-- the victim. -/
theorem vc_in {S : TS} {k : Int} (h : vcO S = some k) : k ∈ S.P ++ S.D ∧ S.K k = false := by
  unfold vcO at h
  exact ⟨List.mem_of_find?_eq_some h, by simpa using List.find?_some h⟩
theorem vc_no {S : TS} (h : vcO S = none) : ∀ k ∈ S.P ++ S.D, S.K k = true := fun k hk => by
  have := List.find?_eq_none.1 h k hk
  simpa using this

end Go.Proofs.YtncdidklgpmefaaDoor
