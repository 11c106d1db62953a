/-
  A tally's plain state: counts, bars, the greatest size; what Add, Note and Bars make of it; that neither hangs on the order. No condition.
-/
import Derived.Lib.BitFns
import Derived.Below
namespace Go.Proofs.YtlhiienmhglieaaDoor

/-- counts, bars, the greatest size. -/
structure TS where
  c : Nat → Int
  b : Nat → Int
  m : Int
def tz : TS := ⟨fun _ => 0, fun _ => 0, 0⟩
def adC (x n : Int) : Int := x + min n (4611686018427387904 - x)
/-- Add. -/
def ad (s : TS) (k n : Int) : TS := ⟨fun i => if (0 ≤ k ∧ k < 9 ∧ 0 < n) ∧ i = k.toNat then adC (s.c i) n else s.c i, s.b, s.m⟩
/-- a size's bar. -/
def bl (x : Int) : Nat := Lib.bitLen (max x 0).toNat
/-- Note. -/
def nt (s : TS) (x : Int) : TS := ⟨s.c, fun i => if i = bl x then s.b i + 1 else s.b i, max s.m (max x 0)⟩
def gt (s : TS) (k : Int) : Int := if 0 ≤ k ∧ k < 9 then s.c k.toNat else 0
theorem bl_lt (x : Int) (h : x ≤ 9223372036854775807) : bl x < 64 := by
  have := Lib.bitLen_le (max x 0).toNat 63 (by omega) (by show (max x 0).toNat < 9223372036854775808; omega)
  unfold bl
  omega

/-- as it comes: behind so many notes. -/
structure Ok (s : TS) (N : Int) : Prop where
  c : ∀ i, 0 ≤ s.c i ∧ s.c i ≤ 4611686018427387904
  b : ∀ i, 0 ≤ s.b i ∧ s.b i ≤ N
  m : 0 ≤ s.m ∧ s.m ≤ 9223372036854775807
theorem ok_z : Ok tz 0 := ⟨fun _ => ⟨Int.le_refl _, by show (0 : Int) ≤ _; omega⟩, fun _ => ⟨Int.le_refl _, Int.le_refl _⟩, ⟨Int.le_refl _, by show (0 : Int) ≤ _; omega⟩⟩
theorem Ok.more {s : TS} {N M : Int} (h : Ok s N) (hm : N ≤ M) : Ok s M := ⟨h.c, fun i => by have := h.b i; omega, h.m⟩
theorem Ok.ad {s : TS} {N : Int} (h : Ok s N) (k n : Int) : Ok (ad s k n) N := by
  refine ⟨fun i => ?_, h.b, h.m⟩
  show 0 ≤ (if (0 ≤ k ∧ k < 9 ∧ 0 < n) ∧ i = k.toNat then adC (s.c i) n else s.c i) ∧ (if (0 ≤ k ∧ k < 9 ∧ 0 < n) ∧ i = k.toNat then adC (s.c i) n else s.c i) ≤ _
  have := h.c i
  unfold adC
  split <;> omega
theorem Ok.nt {s : TS} {N : Int} (h : Ok s N) (x : Int) (hx : x ≤ 9223372036854775807) : Ok (nt s x) (N + 1) := by
  have hm := h.m
  refine ⟨h.c, fun i => ?_, ⟨by show 0 ≤ max s.m (max x 0); omega, by show max s.m (max x 0) ≤ _; omega⟩⟩
  show 0 ≤ (if i = bl x then s.b i + 1 else s.b i) ∧ (if i = bl x then s.b i + 1 else s.b i) ≤ _
  have := h.b i
  split <;> omega

theorem TS.ext' {s t : TS} (h1 : ∀ i, s.c i = t.c i) (h2 : ∀ i, s.b i = t.b i) (h3 : s.m = t.m) : s = t := by
  cases s; cases t
  simp only [TS.mk.injEq]
  exact ⟨funext h1, funext h2, h3⟩
theorem ad_ad (s : TS) (k n k' n' : Int) : ad (ad s k n) k' n' = ad (ad s k' n') k n := by
  refine TS.ext' (fun i => ?_) (fun _ => rfl) rfl
  simp only [ad, adC]
  repeat' split
  all_goals omega
theorem ad_nt (s : TS) (k n x : Int) : nt (ad s k n) x = ad (nt s x) k n := rfl
theorem nt_nt (s : TS) (x y : Int) : nt (nt s x) y = nt (nt s y) x := by
  refine TS.ext' (fun _ => rfl) (fun i => ?_) ?_
  · simp only [nt]
    repeat' split
    all_goals omega
  · show max (max s.m (max x 0)) (max y 0) = max (max s.m (max y 0)) (max x 0)
    omega

/-! ### Bars -/
/-- behind the last of the first n that isn't 0. -/
def en (f : Nat → Int) : Nat → Nat
  | 0 => 0
  | n + 1 => if f n ≠ 0 then n + 1 else en f n
theorem en_yes (f : Nat → Int) (n : Nat) (h : f n ≠ 0) : en f (n + 1) = n + 1 := by rw [en, if_pos h]
theorem en_no (f : Nat → Int) (n : Nat) (h : f n = 0) : en f (n + 1) = en f n := by rw [en, if_neg (by simpa using h)]
theorem en_le (f : Nat → Int) : ∀ n, en f n ≤ n
  | 0 => Nat.le_refl _
  | n + 1 => by unfold en; split; exact Nat.le_refl _; exact Nat.le_succ_of_le (en_le f n)
theorem en_out (f : Nat → Int) : ∀ n i, en f n ≤ i → i < n → f i = 0
  | 0, i, _, h => absurd h (by omega)
  | n + 1, i, h1, h2 => by
    unfold en at h1
    split at h1
    · omega
    · rename_i hn
      rcases Nat.lt_or_ge i n with h | h
      · exact en_out f n i h1 h
      · obtain rfl : i = n := by omega
        exact Decidable.not_not.1 hn

/-- the sum of the first n. -/
def sm (f : Nat → Int) : Nat → Int
  | 0 => 0
  | n + 1 => sm f n + f n
theorem sm_up (f : Nat → Int) (j : Nat) : ∀ n, sm (fun i => if i = j then f i + 1 else f i) n = sm f n + (if j < n then 1 else 0)
  | 0 => by simp [sm]
  | n + 1 => by
    simp only [sm, sm_up f j n]
    repeat' split
    all_goals omega
theorem sm_zero : ∀ n, sm (fun _ => 0) n = 0
  | 0 => rfl
  | n + 1 => by simp [sm, sm_zero n]
theorem sm_cut (f : Nat → Int) (a : Nat) : ∀ n, a ≤ n → (∀ i, a ≤ i → i < n → f i = 0) → sm f n = sm f a
  | 0, h, _ => by rw [show a = 0 by omega]
  | n + 1, h, h0 => by
    rcases Nat.lt_or_ge n a with h1 | h1
    · rw [show a = n + 1 by omega]
    · simp only [sm]
      rw [h0 n h1 (by omega), sm_cut f a n h1 (fun i hi hn => h0 i hi (by omega))]
      omega
theorem sm_bound (f : Nat → Int) (N : Int) (h : ∀ i, 0 ≤ f i ∧ f i ≤ N) : ∀ n : Nat, 0 ≤ sm f n ∧ sm f n ≤ n * N
  | 0 => by simp [sm]
  | n + 1 => by
    have := sm_bound f N h n
    have := h n
    simp only [sm]
    rw [show ((n + 1 : Nat) : Int) * N = n * N + N by push_cast; rw [Int.add_mul, Int.one_mul]]
    omega

/-! ### a script of acts -/
structure TA where
  d : Int
  k : Int
  z : Int
  n : Int
def noA : TA := ⟨0, 0, 0, 0⟩
/-- TallySums' act: by the last bit. -/
def st (s : TS) (a : TA) : TS := if a.d % 2 = 0 then ad s a.k a.n else nt s a.z
def run (l : List TA) : TS := l.foldl st tz
def nd (l : List TA) : Int := (l.countP (fun a => decide (a.d % 2 ≠ 0)) : Nat)
theorem st_st (s : TS) (a b : TA) : st (st s a) b = st (st s b) a := by
  unfold st
  repeat' split
  · exact ad_ad ..
  · first | exact ad_nt .. | exact (ad_nt ..).symm
  · first | exact ad_nt .. | exact (ad_nt ..).symm
  · exact nt_nt ..
theorem run_rev (l : List TA) : run l.reverse = run l :=
  (List.reverse_perm l).foldl_eq' (fun x _ y _ z => st_st z x y) tz
theorem run_snoc (l : List TA) (a : TA) : run (l ++ [a]) = st (run l) a := by simp [run]
theorem run_take (l : List TA) (i : Nat) (h : i < l.length) : run (l.take (i + 1)) = st (run (l.take i)) (l.getD i noA) := by
  rw [List.take_succ_eq_append_getElem h, run_snoc]
  simp [List.getD_eq_getElem?_getD, h]
theorem nd_take (l : List TA) (i : Nat) (h : i < l.length) : nd (l.take (i + 1)) = nd (l.take i) + (if (l.getD i noA).d % 2 = 0 then 0 else 1) := by
  unfold nd
  rw [List.take_succ_eq_append_getElem h, List.countP_append]
  simp only [List.countP_singleton, List.getD_eq_getElem?_getD, List.getElem?_eq_getElem h, Option.getD_some]
  by_cases e : l[i].d % 2 = 0 <;> simp [e]
theorem nd_bound (l : List TA) : 0 ≤ nd l ∧ nd l ≤ l.length := by
  unfold nd
  have := List.countP_le_length (p := fun a : TA => decide (a.d % 2 ≠ 0)) (l := l)
  omega
theorem run_ok : ∀ (l : List TA), (∀ i, i < l.length → (l.getD i noA).z ≤ 9223372036854775807) → ∀ i, i ≤ l.length → Ok (run (l.take i)) i ∧ sm (run (l.take i)).b 64 = nd (l.take i) := by
  intro l hl i
  induction i with
  | zero => exact fun _ => ⟨by simpa [run] using ok_z, by simp [run, nd, tz, sm_zero]⟩
  | succ i ih =>
    intro hi
    obtain ⟨h1, h2⟩ := ih (by omega)
    have hz := hl i (by omega)
    rw [run_take l i (by omega), nd_take l i (by omega)]
    unfold st
    split
    · exact ⟨(h1.ad _ _).more (by omega), by show sm (run (l.take i)).b 64 = _; omega⟩
    · refine ⟨by have := h1.nt _ hz; rwa [show ((i + 1 : Nat) : Int) = i + 1 by omega], ?_⟩
      show sm (fun j => if j = bl _ then (run (l.take i)).b j + 1 else (run (l.take i)).b j) 64 = _
      rw [sm_up, h2, if_pos (bl_lt _ hz)]
theorem rev_at (l : List TA) (i : Nat) (h : i < l.length) : l.reverse.getD i noA = l.getD (l.length - 1 - i) noA := by
  simp only [List.getD_eq_getElem?_getD]
  rw [List.getElem?_reverse h]

end Go.Proofs.YtlhiienmhglieaaDoor
