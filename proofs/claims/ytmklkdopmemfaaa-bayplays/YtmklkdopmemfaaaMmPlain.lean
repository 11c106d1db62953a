/-
  A member, in plain terms: its sectors with what waits and without it, the writes that wait, whether it is dead, its counts; what each call makes of it. No condition.
-/
import Derived.Test.YtmklkdopmemfaaaBufMem
namespace Go.Proofs.Ytmklkdopmemfaaa
open Go.RowKit Plain

/-- a sector of noughts. -/
def z64 : ByteArray := bs 64 (fun _ => 0)
theorem z64_size : z64.size = 64 := bs_size _ _

structure MS where
  now : List ByteArray
  las : List ByteArray
  row : List (Nat × ByteArray)
  dead : Bool
  c : Nat → Int

/-- sectors behind writes. -/
def pl : List ByteArray → List (Nat × ByteArray) → List ByteArray
  | l, [] => l
  | l, p :: r => pl (l.set p.1 p.2) r
theorem pl_len : ∀ (r : List (Nat × ByteArray)) (l : List ByteArray), (pl l r).length = l.length
  | [], _ => rfl
  | p :: r, l => by simp only [pl, pl_len r, List.length_set]
theorem pl_app : ∀ (r q : List (Nat × ByteArray)) (l : List ByteArray), pl l (r ++ q) = pl (pl l r) q
  | [], _, _ => rfl
  | p :: r, q, l => by simp only [pl, List.cons_append, pl_app r q]
theorem pl_one (r : List (Nat × ByteArray)) (p : Nat × ByteArray) (l : List ByteArray) : pl l (r ++ [p]) = (pl l r).set p.1 p.2 := by rw [pl_app]; rfl
/-- writes kept by their place and what they are. -/
def tk (f : Nat → (Nat × ByteArray) → Bool) : Nat → List (Nat × ByteArray) → List (Nat × ByteArray)
  | _, [] => []
  | k, p :: r => if f k p then p :: tk f (k + 1) r else tk f (k + 1) r
theorem tk_app (f : Nat → (Nat × ByteArray) → Bool) : ∀ (r : List (Nat × ByteArray)) (k : Nat) (p : Nat × ByteArray), tk f k (r ++ [p]) = if f (k + r.length) p then tk f k r ++ [p] else tk f k r
  | [], k, p => by simp only [List.nil_append, tk, List.length_nil, Nat.add_zero]
  | q :: r, k, p => by
    simp only [List.cons_append, tk, tk_app f r (k + 1) p, List.length_cons, show k + 1 + r.length = k + (r.length + 1) by omega]
    split <;> split <;> rfl
theorem tk_len (f : Nat → (Nat × ByteArray) → Bool) : ∀ (r : List (Nat × ByteArray)) (k : Nat), (tk f k r).length ≤ r.length
  | [], _ => Nat.le_refl _
  | p :: r, k => by
    have := tk_len f r (k + 1)
    simp only [tk]
    split <;> simp only [List.length_cons] <;> omega
theorem tk_mem (f : Nat → (Nat × ByteArray) → Bool) : ∀ (r : List (Nat × ByteArray)) (k : Nat), ∀ p ∈ tk f k r, p ∈ r
  | [], _, p, h => h
  | q :: r, k, p, h => by
    simp only [tk] at h
    split at h
    · rcases List.mem_cons.1 h with rfl | h
      · exact List.mem_cons_self
      · exact List.mem_cons_of_mem _ (tk_mem f r (k + 1) p h)
    · exact List.mem_cons_of_mem _ (tk_mem f r (k + 1) p h)
theorem tk_take (f : Nat → (Nat × ByteArray) → Bool) (r : List (Nat × ByteArray)) (k : Nat) (h : k < r.length) : tk f 0 (r.take (k + 1)) = if f k (r.getD k (0, noS)) then tk f 0 (r.take k) ++ [r.getD k (0, noS)] else tk f 0 (r.take k) := by
  have e : r.take (k + 1) = r.take k ++ [r.getD k (0, noS)] := by
    rw [List.take_add_one, List.getElem?_eq_getElem h, List.getD_eq_getElem?_getD, List.getElem?_eq_getElem h]
    rfl
  rw [e, tk_app, List.length_take, Nat.zero_add, Nat.min_eq_left (by omega)]
theorem pl_take (l : List ByteArray) (r : List (Nat × ByteArray)) (k : Nat) (h : k < r.length) : pl l (r.take (k + 1)) = (pl l (r.take k)).set (r.getD k (0, noS)).1 (r.getD k (0, noS)).2 := by
  have e : r.take (k + 1) = r.take k ++ [r.getD k (0, noS)] := by
    rw [List.take_add_one, List.getElem?_eq_getElem h, List.getD_eq_getElem?_getD, List.getElem?_eq_getElem h]
    rfl
  rw [e, pl_one]

structure Fine (S : MS) : Prop where
  n1 : 1 ≤ S.las.length
  n2 : S.las.length ≤ 256
  nn : S.now.length = S.las.length
  bn : ∀ s ∈ S.now, s.size = 64
  bl : ∀ s ∈ S.las, s.size = 64
  br : ∀ p ∈ S.row, p.1 < S.las.length ∧ p.2.size = 64
/-- what a member has is what lasts and the writes behind it. -/
structure Right (S : MS) : Prop where
  live : S.dead = false → S.now = pl S.las S.row
  gone : S.dead = true → S.row = []
theorem set_all {l : List ByteArray} (h : ∀ s ∈ l, s.size = 64) (i : Nat) (t : ByteArray) (ht : t.size = 64) : ∀ s ∈ l.set i t, s.size = 64 := by
  intro s hs
  rcases List.mem_or_eq_of_mem_set hs with h1 | rfl
  · exact h s h1
  · exact ht
theorem pl_all : ∀ (r : List (Nat × ByteArray)) (l : List ByteArray), (∀ s ∈ l, s.size = 64) → (∀ p ∈ r, p.2.size = 64) → ∀ s ∈ pl l r, s.size = 64
  | [], _, h, _ => h
  | p :: r, l, h, hr => by
    simp only [pl]
    exact pl_all r _ (set_all h _ _ (hr p List.mem_cons_self)) (fun q hq => hr q (List.mem_cons_of_mem _ hq))

/-- one more. -/
def up (c : Nat → Int) (j : Nat) : Nat → Int := fun i => if i = j then wrap64 (c j + 1) else c i
/-- why a sector can't be had. -/
def rcE (S : MS) (k : Int) : Int := if S.dead then 22 else if 0 ≤ k ∧ k < S.las.length then 0 else 3
def wrE (S : MS) (k : Int) (s : ByteArray) : Int := if rcE S k = 0 then (if s.size = 64 then 0 else 4) else rcE S k
def wr (S : MS) (k : Int) (s : ByteArray) : MS := if wrE S k s = 0 then ⟨S.now.set k.toNat s, S.las, S.row ++ [(k.toNat, s)], S.dead, up S.c 1⟩ else S
def rdS (S : MS) (k : Int) : ByteArray := if rcE S k = 0 then S.now.getD k.toNat noS else ByteArray.empty
def rd (S : MS) (k : Int) : MS := if rcE S k = 0 then ⟨S.now, S.las, S.row, S.dead, up S.c 0⟩ else S
def flE (S : MS) : Int := if S.dead then 22 else 0
def fl (S : MS) : MS := if S.dead then S else ⟨S.now, pl S.las S.row, [], S.dead, up S.c 2⟩
def cr (S : MS) (f : Nat → Bool) : MS := ⟨pl S.las (tk (fun k _ => f k) 0 S.row), pl S.las (tk (fun k _ => f k) 0 S.row), [], S.dead, S.c⟩
def fa (S : MS) : MS := ⟨S.now, S.las, [], true, S.c⟩
def rp (S : MS) : MS := ⟨List.replicate S.las.length z64, List.replicate S.las.length z64, [], false, up S.c 3⟩
def rtB (S : MS) (k : Int) (s : ByteArray) : Bool := decide (rcE S k = 0) && decide (s.size = 64)
def nq (k : Int) : Nat → (Nat × ByteArray) → Bool := fun _ p => decide ((p.1 : Int) ≠ k)
def rt (S : MS) (k : Int) (s : ByteArray) : MS := if rtB S k s then ⟨S.now.set k.toNat s, S.las.set k.toNat s, tk (nq k) 0 S.row, S.dead, S.c⟩ else S
/-- a new one. -/
def nwN (n : Int) : Nat := (min (max n 1) 256).toNat
def nw (n : Nat) : MS := ⟨List.replicate n z64, List.replicate n z64, [], false, fun _ => 0⟩

theorem rc_ok {S : MS} {k : Int} (h : rcE S k = 0) : S.dead = false ∧ 0 ≤ k ∧ k < S.las.length := by
  unfold rcE at h
  cases hd : S.dead with
  | true => rw [hd] at h; simp at h
  | false =>
    rw [hd] at h
    by_cases h1 : 0 ≤ k ∧ k < S.las.length
    · exact ⟨rfl, h1⟩
    · rw [if_neg h1] at h; simp at h
theorem wr_ok {S : MS} {k : Int} {s : ByteArray} (h : wrE S k s = 0) : rcE S k = 0 ∧ s.size = 64 := by
  unfold wrE at h
  by_cases h1 : rcE S k = 0
  · rw [if_pos h1] at h
    by_cases h2 : s.size = 64
    · exact ⟨h1, h2⟩
    · rw [if_neg h2] at h; cases h
  · rw [if_neg h1] at h; exact absurd h h1
theorem rep_all (n : Nat) : ∀ s ∈ List.replicate n z64, s.size = 64 := by
  intro s hs
  rw [(List.mem_replicate.1 hs).2, z64_size]
theorem Fine.nw (n : Nat) (h1 : 1 ≤ n) (h2 : n ≤ 256) : Fine (nw n) := ⟨by simpa [Go.Proofs.Ytmklkdopmemfaaa.nw] using h1, by simpa [Go.Proofs.Ytmklkdopmemfaaa.nw] using h2, rfl, rep_all n, rep_all n, fun p hp => (by cases hp)⟩
theorem Fine.wr {S : MS} (h : Fine S) (k : Int) (s : ByteArray) : Fine (wr S k s) := by
  unfold Go.Proofs.Ytmklkdopmemfaaa.wr
  split
  · rename_i hw
    obtain ⟨h1, h2⟩ := wr_ok hw
    obtain ⟨_, h3, h4⟩ := rc_ok h1
    refine ⟨h.n1, h.n2, by simpa using h.nn, set_all h.bn _ _ h2, h.bl, fun p hp => ?_⟩
    rcases List.mem_append.1 hp with h5 | h5
    · exact h.br p h5
    · rw [List.mem_singleton.1 h5]; exact ⟨by show k.toNat < S.las.length; omega, h2⟩
  · exact h
theorem Fine.rd {S : MS} (h : Fine S) (k : Int) : Fine (rd S k) := by
  unfold Go.Proofs.Ytmklkdopmemfaaa.rd
  split
  · exact ⟨h.n1, h.n2, h.nn, h.bn, h.bl, h.br⟩
  · exact h
theorem Fine.fl {S : MS} (h : Fine S) : Fine (fl S) := by
  unfold Go.Proofs.Ytmklkdopmemfaaa.fl
  split
  · exact h
  · exact ⟨by simpa [pl_len] using h.n1, by simpa [pl_len] using h.n2, by simpa [pl_len] using h.nn, h.bn, pl_all _ _ h.bl (fun p hp => (h.br p hp).2), fun p hp => (by cases hp)⟩
theorem Fine.cr {S : MS} (h : Fine S) (f : Nat → Bool) : Fine (cr S f) := by
  have ha := pl_all _ _ h.bl (fun p hp => (h.br p (tk_mem (fun k _ => f k) S.row 0 p hp)).2)
  exact ⟨by simpa [Go.Proofs.Ytmklkdopmemfaaa.cr, pl_len] using h.n1, by simpa [Go.Proofs.Ytmklkdopmemfaaa.cr, pl_len] using h.n2, rfl, ha, ha, fun p hp => (by cases hp)⟩
theorem Fine.fa {S : MS} (h : Fine S) : Fine (fa S) := ⟨h.n1, h.n2, h.nn, h.bn, h.bl, fun p hp => (by cases hp)⟩
theorem Fine.rp {S : MS} (h : Fine S) : Fine (rp S) := ⟨by simpa [Go.Proofs.Ytmklkdopmemfaaa.rp] using h.n1, by simpa [Go.Proofs.Ytmklkdopmemfaaa.rp] using h.n2, rfl, rep_all _, rep_all _, fun p hp => (by cases hp)⟩
theorem Fine.rt {S : MS} (h : Fine S) (k : Int) (s : ByteArray) : Fine (rt S k s) := by
  unfold Go.Proofs.Ytmklkdopmemfaaa.rt
  split
  · rename_i hw
    unfold rtB at hw
    rw [Bool.and_eq_true, decide_eq_true_eq, decide_eq_true_eq] at hw
    refine ⟨by simpa using h.n1, by simpa using h.n2, by simpa using h.nn, set_all h.bn _ _ hw.2, set_all h.bl _ _ hw.2, fun p hp => ?_⟩
    have := h.br p (tk_mem (nq k) S.row 0 p hp)
    exact ⟨by simpa using this.1, this.2⟩
  · exact h
theorem Right.nw (n : Nat) : Right (nw n) := ⟨fun _ => rfl, fun h => (by cases h)⟩
theorem Right.wr {S : MS} (h : Right S) (k : Int) (s : ByteArray) : Right (wr S k s) := by
  unfold Go.Proofs.Ytmklkdopmemfaaa.wr
  split
  · rename_i hw
    obtain ⟨h1, _⟩ := wr_ok hw
    obtain ⟨hd, _⟩ := rc_ok h1
    refine ⟨fun _ => ?_, fun hx => ?_⟩
    · show S.now.set k.toNat s = pl S.las (S.row ++ [(k.toNat, s)])
      rw [pl_one, h.live hd]
    · have : S.dead = true := hx
      rw [hd] at this; cases this
  · exact h
theorem Right.rd {S : MS} (h : Right S) (k : Int) : Right (rd S k) := by
  unfold Go.Proofs.Ytmklkdopmemfaaa.rd
  split
  · exact ⟨h.live, h.gone⟩
  · exact h
theorem Right.fl {S : MS} (h : Right S) : Right (fl S) := by
  unfold Go.Proofs.Ytmklkdopmemfaaa.fl
  split
  · exact h
  · exact ⟨fun hd => h.live hd, fun _ => rfl⟩
theorem Right.cr {S : MS} (f : Nat → Bool) : Right (cr S f) := ⟨fun _ => rfl, fun _ => rfl⟩
theorem Right.fa {S : MS} : Right (fa S) := ⟨fun h => (by cases h), fun _ => rfl⟩
theorem Right.rp {S : MS} : Right (rp S) := ⟨fun _ => rfl, fun _ => rfl⟩
theorem pl_set_out : ∀ (r : List (Nat × ByteArray)) (l : List ByteArray) (i : Nat) (s : ByteArray), (∀ p ∈ r, p.1 ≠ i) → pl (l.set i s) r = (pl l r).set i s
  | [], _, _, _, _ => rfl
  | p :: r, l, i, s, h => by
    simp only [pl]
    rw [List.set_comm _ _ (fun e => h p List.mem_cons_self e.symm), pl_set_out r _ i s (fun q hq => h q (List.mem_cons_of_mem _ hq))]
theorem pl_rot : ∀ (r : List (Nat × ByteArray)) (j : Nat) (l : List ByteArray) (i : Nat) (s : ByteArray), pl (l.set i s) (tk (nq (i : Int)) j r) = (pl l r).set i s
  | [], _, _, _, _ => rfl
  | p :: r, j, l, i, s => by
    simp only [tk]
    by_cases e : p.1 = i
    · rw [if_neg (show ¬ nq (i : Int) j p = true by simp [nq, e])]
      simp only [pl]
      have := pl_rot r (j + 1) (l.set p.1 p.2) i s
      rw [e, List.set_set] at this
      rw [e]; exact this
    · rw [if_pos (show nq (i : Int) j p = true by simp [nq]; omega)]
      simp only [pl]
      rw [List.set_comm _ _ (fun e' => e e'.symm)]
      exact pl_rot r (j + 1) _ i s
theorem Right.rt {S : MS} (h : Right S) (k : Int) (s : ByteArray) : Right (rt S k s) := by
  unfold Go.Proofs.Ytmklkdopmemfaaa.rt
  split
  · rename_i hw
    unfold rtB at hw
    rw [Bool.and_eq_true, decide_eq_true_eq, decide_eq_true_eq] at hw
    obtain ⟨hd, h0, _⟩ := rc_ok hw.1
    refine ⟨fun _ => ?_, fun hx => ?_⟩
    · show S.now.set k.toNat s = pl (S.las.set k.toNat s) (tk (nq k) 0 S.row)
      have := pl_rot S.row 0 S.las k.toNat s
      rw [show ((k.toNat : Nat) : Int) = k by omega] at this
      rw [this, h.live hd]
    · have : S.dead = true := hx
      rw [hd] at this; cases this
  · exact h

end Go.Proofs.Ytmklkdopmemfaaa
