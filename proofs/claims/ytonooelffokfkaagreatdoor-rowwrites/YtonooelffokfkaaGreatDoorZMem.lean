/-
  A member (layer 10): its state in memory, and its calls. Conditions: that it lies in memory.
-/
import Derived.Test.YtonooelffokfkaaGreatDoorZBase
import Derived.Test.YtonooelffokfkaaGreatDoorProg
import Derived.Conc.RwLoneW
import Derived.KernelRfl
import Derived.Deep.MidRow
import Derived.Laws.BytesArg
import Derived.Laws.AppendOwnNone
import Derived.Maps.AppendAt
import Derived.Deep.OwnRows
import Derived.Test.YtonooelffokfkaaGreatDoorRows
import Derived.Deep.RegionHeld3
import Derived.Defers
import Derived.WalkKit
import Derived.Laws.OwnMore
import Derived.Deep.RegionLaw
import Derived.Great.BuildSlice
import Derived.Great.FillDense
import Derived.Deep.SlicePairs
import Derived.Deep.Quiet
import Derived.BigQuiet
namespace Go.Proofs.YtonooelffokfkaaGreatDoor
open Go.Conc.Locks
abbrev muLink : MuLink := { lock := 98, unlock := 107, ilock := 139, iunlock := 141, lockSlow := 170, unlockSlow := 171, disable := 97, enable := 101, acquire := 102, relMerge := 104, cas32 := 169, add32 := 140, tMutex := 148, tIMutex := 146, tPMutex := 208, tPIMutex := 283, tPI32 := 250, tUP := 207, tNoCopy := 144, tU32 := 129 }
theorem muLib : MuLib Tryz.prog muLink :=
  ⟨Tryz.func98, Tryz.func107, Tryz.func139, Tryz.func141, Tryz.func97, Tryz.func101, Tryz.func102, Tryz.func104, Tryz.func169, Tryz.func140, Tryz.underlying146, Tryz.runUnderlying146, Tryz.sizeOf146, Tryz.isAgg146, Tryz.zeroValue146, Tryz.underlying148, Tryz.runUnderlying148, Tryz.sizeOf148, Tryz.isAgg148, Tryz.zeroValue148, Tryz.underlying208, Tryz.runUnderlying208, Tryz.sizeOf208, Tryz.isAgg208, Tryz.zeroValue208, Tryz.underlying283, Tryz.runUnderlying283, Tryz.sizeOf283, Tryz.isAgg283, Tryz.zeroValue283, Tryz.underlying250, Tryz.runUnderlying250, Tryz.sizeOf250, Tryz.isAgg250, Tryz.zeroValue250, Tryz.underlying207, Tryz.runUnderlying207, Tryz.sizeOf207, Tryz.isAgg207, Tryz.zeroValue207, Tryz.underlying144, Tryz.runUnderlying144, Tryz.sizeOf144, Tryz.isAgg144, Tryz.zeroValue144, Tryz.underlying21, Tryz.runUnderlying21, Tryz.sizeOf21, Tryz.isAgg21, Tryz.zeroValue21, (by kernel_rfl)⟩
abbrev rwLink : RwLink := { lock := 98, unlock := 107, ilock := 139, iunlock := 141, lockSlow := 170, unlockSlow := 171, disable := 97, enable := 101, acquire := 102, relMerge := 104, cas32 := 169, add32 := 140, tMutex := 148, tIMutex := 146, tPMutex := 208, tPIMutex := 283, tPI32 := 250, tUP := 207, tNoCopy := 144, tU32 := 129, rlock := 183, runlock := 184, wlock := 54, wunlock := 55, i32add := 99, raceRead := 96, release := 103, rUnlockSlow := 215, semacqR := 214, semacqW := 100, semrel := 106, sfatal := 105, tRW := 152, tPRW := 205, tAI32 := 150, tPAI32 := 248, tPU32 := 211, tANoCopy := 128 }
theorem rwCore : RwCore Tryz.prog rwLink :=
  ⟨Tryz.func99, Tryz.func96, Tryz.func97, Tryz.func101, Tryz.func102, Tryz.func104, Tryz.func140, Tryz.underlying152, Tryz.runUnderlying152, Tryz.sizeOf152, Tryz.isAgg152, Tryz.zeroValue152, Tryz.underlying150, Tryz.runUnderlying150, Tryz.sizeOf150, Tryz.isAgg150, Tryz.zeroValue150, Tryz.underlying205, Tryz.runUnderlying205, Tryz.sizeOf205, Tryz.isAgg205, Tryz.zeroValue205, Tryz.underlying248, Tryz.runUnderlying248, Tryz.sizeOf248, Tryz.isAgg248, Tryz.zeroValue248, Tryz.underlying211, Tryz.runUnderlying211, Tryz.sizeOf211, Tryz.isAgg211, Tryz.zeroValue211, Tryz.underlying128, Tryz.runUnderlying128, Tryz.sizeOf128, Tryz.isAgg128, Tryz.zeroValue128, Tryz.underlying129, Tryz.runUnderlying129, Tryz.sizeOf129, Tryz.isAgg129, Tryz.zeroValue129, Tryz.underlying148, Tryz.runUnderlying148, Tryz.sizeOf148, Tryz.isAgg148, Tryz.zeroValue148, Tryz.underlying208, Tryz.runUnderlying208, Tryz.sizeOf208, Tryz.isAgg208, Tryz.zeroValue208, Tryz.underlying250, Tryz.runUnderlying250, Tryz.sizeOf250, Tryz.isAgg250, Tryz.zeroValue250, Tryz.underlying207, Tryz.runUnderlying207, Tryz.sizeOf207, Tryz.isAgg207, Tryz.zeroValue207, Tryz.underlying21, Tryz.runUnderlying21, Tryz.sizeOf21, Tryz.isAgg21, Tryz.zeroValue21, (by kernel_rfl), (by kernel_rfl)⟩
theorem rwRLib : RwRLib Tryz.prog rwLink := ⟨rwCore, Tryz.func183, Tryz.func184⟩
theorem rwWLib : RwWLib Tryz.prog rwLink := ⟨rwCore, muLib, Tryz.func54, Tryz.func55, Tryz.func103, Tryz.underlying3, Tryz.runUnderlying3, Tryz.sizeOf3, Tryz.isAgg3, Tryz.zeroValue3⟩
end Go.Proofs.YtonooelffokfkaaGreatDoor

namespace Go.Proofs.YtonooelffokfkaaGreatDoor
open Go.RowKit Plain

/-- a sector of noughts. -/
def z64 : ByteArray := bs 64 (fun _ => 0)
theorem z64_size : z64.size = 64 := bs_size _ _

structure MS where
  now : List ByteArray
  las : List ByteArray
  row : List (Nat × ByteArray)
  dead : Bool
  c : Nat → Int

/-- sectors behind writes. -/
def pl : List ByteArray → List (Nat × ByteArray) → List ByteArray
  | l, [] => l
  | l, p :: r => pl (l.set p.1 p.2) r
theorem pl_len : ∀ (r : List (Nat × ByteArray)) (l : List ByteArray), (pl l r).length = l.length
  | [], _ => rfl
  | p :: r, l => by simp only [pl, pl_len r, List.length_set]
theorem pl_app : ∀ (r q : List (Nat × ByteArray)) (l : List ByteArray), pl l (r ++ q) = pl (pl l r) q
  | [], _, _ => rfl
  | p :: r, q, l => by simp only [pl, List.cons_append, pl_app r q]
theorem pl_one (r : List (Nat × ByteArray)) (p : Nat × ByteArray) (l : List ByteArray) : pl l (r ++ [p]) = (pl l r).set p.1 p.2 := by rw [pl_app]; rfl
/-- writes kept by their place and what they are. -/
def tk (f : Nat → (Nat × ByteArray) → Bool) : Nat → List (Nat × ByteArray) → List (Nat × ByteArray)
  | _, [] => []
  | k, p :: r => if f k p then p :: tk f (k + 1) r else tk f (k + 1) r
theorem tk_app (f : Nat → (Nat × ByteArray) → Bool) : ∀ (r : List (Nat × ByteArray)) (k : Nat) (p : Nat × ByteArray), tk f k (r ++ [p]) = if f (k + r.length) p then tk f k r ++ [p] else tk f k r
  | [], k, p => by simp only [List.nil_append, tk, List.length_nil, Nat.add_zero]
  | q :: r, k, p => by
    simp only [List.cons_append, tk, tk_app f r (k + 1) p, List.length_cons, show k + 1 + r.length = k + (r.length + 1) by omega]
    split <;> split <;> rfl
theorem tk_len (f : Nat → (Nat × ByteArray) → Bool) : ∀ (r : List (Nat × ByteArray)) (k : Nat), (tk f k r).length ≤ r.length
  | [], _ => Nat.le_refl _
  | p :: r, k => by
    have := tk_len f r (k + 1)
    simp only [tk]
    split <;> simp only [List.length_cons] <;> omega
theorem tk_mem (f : Nat → (Nat × ByteArray) → Bool) : ∀ (r : List (Nat × ByteArray)) (k : Nat), ∀ p ∈ tk f k r, p ∈ r
  | [], _, p, h => h
  | q :: r, k, p, h => by
    simp only [tk] at h
    split at h
    · rcases List.mem_cons.1 h with rfl | h
      · exact List.mem_cons_self
      · exact List.mem_cons_of_mem _ (tk_mem f r (k + 1) p h)
    · exact List.mem_cons_of_mem _ (tk_mem f r (k + 1) p h)
theorem tk_take (f : Nat → (Nat × ByteArray) → Bool) (r : List (Nat × ByteArray)) (k : Nat) (h : k < r.length) : tk f 0 (r.take (k + 1)) = if f k (r.getD k (0, noS)) then tk f 0 (r.take k) ++ [r.getD k (0, noS)] else tk f 0 (r.take k) := by
  have e : r.take (k + 1) = r.take k ++ [r.getD k (0, noS)] := by
    rw [List.take_add_one, List.getElem?_eq_getElem h, List.getD_eq_getElem?_getD, List.getElem?_eq_getElem h]
    rfl
  rw [e, tk_app, List.length_take, Nat.zero_add, Nat.min_eq_left (by omega)]
theorem pl_take (l : List ByteArray) (r : List (Nat × ByteArray)) (k : Nat) (h : k < r.length) : pl l (r.take (k + 1)) = (pl l (r.take k)).set (r.getD k (0, noS)).1 (r.getD k (0, noS)).2 := by
  have e : r.take (k + 1) = r.take k ++ [r.getD k (0, noS)] := by
    rw [List.take_add_one, List.getElem?_eq_getElem h, List.getD_eq_getElem?_getD, List.getElem?_eq_getElem h]
    rfl
  rw [e, pl_one]

structure Fine (S : MS) : Prop where
  n1 : 1 ≤ S.las.length
  n2 : S.las.length ≤ 256
  nn : S.now.length = S.las.length
  bn : ∀ s ∈ S.now, s.size = 64
  bl : ∀ s ∈ S.las, s.size = 64
  br : ∀ p ∈ S.row, p.1 < S.las.length ∧ p.2.size = 64
/-- what a member has is what lasts and the writes behind it. -/
structure Right (S : MS) : Prop where
  live : S.dead = false → S.now = pl S.las S.row
  gone : S.dead = true → S.row = []
theorem set_all {l : List ByteArray} (h : ∀ s ∈ l, s.size = 64) (i : Nat) (t : ByteArray) (ht : t.size = 64) : ∀ s ∈ l.set i t, s.size = 64 := by
  intro s hs
  rcases List.mem_or_eq_of_mem_set hs with h1 | rfl
  · exact h s h1
  · exact ht
theorem pl_all : ∀ (r : List (Nat × ByteArray)) (l : List ByteArray), (∀ s ∈ l, s.size = 64) → (∀ p ∈ r, p.2.size = 64) → ∀ s ∈ pl l r, s.size = 64
  | [], _, h, _ => h
  | p :: r, l, h, hr => by
    simp only [pl]
    exact pl_all r _ (set_all h _ _ (hr p List.mem_cons_self)) (fun q hq => hr q (List.mem_cons_of_mem _ hq))

/-- one more. -/
def up (c : Nat → Int) (j : Nat) : Nat → Int := fun i => if i = j then wrap64 (c j + 1) else c i
/-- why a sector can't be had. -/
def rcE (S : MS) (k : Int) : Int := if S.dead then 22 else if 0 ≤ k ∧ k < S.las.length then 0 else 3
def wrE (S : MS) (k : Int) (s : ByteArray) : Int := if rcE S k = 0 then (if s.size = 64 then 0 else 4) else rcE S k
def wr (S : MS) (k : Int) (s : ByteArray) : MS := if wrE S k s = 0 then ⟨S.now.set k.toNat s, S.las, S.row ++ [(k.toNat, s)], S.dead, up S.c 1⟩ else S
def rdS (S : MS) (k : Int) : ByteArray := if rcE S k = 0 then S.now.getD k.toNat noS else ByteArray.empty
def rd (S : MS) (k : Int) : MS := if rcE S k = 0 then ⟨S.now, S.las, S.row, S.dead, up S.c 0⟩ else S
def fl (S : MS) : MS := if S.dead then S else ⟨S.now, pl S.las S.row, [], S.dead, up S.c 2⟩
def cr (S : MS) (f : Nat → Bool) : MS := ⟨pl S.las (tk (fun k _ => f k) 0 S.row), pl S.las (tk (fun k _ => f k) 0 S.row), [], S.dead, S.c⟩
def fa (S : MS) : MS := ⟨S.now, S.las, [], true, S.c⟩
def rp (S : MS) : MS := ⟨List.replicate S.las.length z64, List.replicate S.las.length z64, [], false, up S.c 3⟩
def rtB (S : MS) (k : Int) (s : ByteArray) : Bool := decide (rcE S k = 0) && decide (s.size = 64)
def nq (k : Int) : Nat → (Nat × ByteArray) → Bool := fun _ p => decide ((p.1 : Int) ≠ k)
def rt (S : MS) (k : Int) (s : ByteArray) : MS := if rtB S k s then ⟨S.now.set k.toNat s, S.las.set k.toNat s, tk (nq k) 0 S.row, S.dead, S.c⟩ else S
/-- a new one. -/
def nwN (n : Int) : Nat := (min (max n 1) 256).toNat
def nw (n : Nat) : MS := ⟨List.replicate n z64, List.replicate n z64, [], false, fun _ => 0⟩

theorem rc_ok {S : MS} {k : Int} (h : rcE S k = 0) : S.dead = false ∧ 0 ≤ k ∧ k < S.las.length := by
  unfold rcE at h
  cases hd : S.dead with
  | true => rw [hd] at h; simp at h
  | false =>
    rw [hd] at h
    by_cases h1 : 0 ≤ k ∧ k < S.las.length
    · exact ⟨rfl, h1⟩
    · rw [if_neg h1] at h; simp at h
theorem wr_ok {S : MS} {k : Int} {s : ByteArray} (h : wrE S k s = 0) : rcE S k = 0 ∧ s.size = 64 := by
  unfold wrE at h
  by_cases h1 : rcE S k = 0
  · rw [if_pos h1] at h
    by_cases h2 : s.size = 64
    · exact ⟨h1, h2⟩
    · rw [if_neg h2] at h; cases h
  · rw [if_neg h1] at h; exact absurd h h1
theorem rep_all (n : Nat) : ∀ s ∈ List.replicate n z64, s.size = 64 := by
  intro s hs
  rw [(List.mem_replicate.1 hs).2, z64_size]
theorem Fine.nw (n : Nat) (h1 : 1 ≤ n) (h2 : n ≤ 256) : Fine (nw n) := ⟨by simpa [Go.Proofs.YtonooelffokfkaaGreatDoor.nw] using h1, by simpa [Go.Proofs.YtonooelffokfkaaGreatDoor.nw] using h2, rfl, rep_all n, rep_all n, fun p hp => (by cases hp)⟩
theorem Fine.wr {S : MS} (h : Fine S) (k : Int) (s : ByteArray) : Fine (wr S k s) := by
  unfold Go.Proofs.YtonooelffokfkaaGreatDoor.wr
  split
  · rename_i hw
    obtain ⟨h1, h2⟩ := wr_ok hw
    obtain ⟨_, h3, h4⟩ := rc_ok h1
    refine ⟨h.n1, h.n2, by simpa using h.nn, set_all h.bn _ _ h2, h.bl, fun p hp => ?_⟩
    rcases List.mem_append.1 hp with h5 | h5
    · exact h.br p h5
    · rw [List.mem_singleton.1 h5]; exact ⟨by show k.toNat < S.las.length; omega, h2⟩
  · exact h
theorem Fine.rd {S : MS} (h : Fine S) (k : Int) : Fine (rd S k) := by
  unfold Go.Proofs.YtonooelffokfkaaGreatDoor.rd
  split
  · exact ⟨h.n1, h.n2, h.nn, h.bn, h.bl, h.br⟩
  · exact h
theorem Fine.fl {S : MS} (h : Fine S) : Fine (fl S) := by
  unfold Go.Proofs.YtonooelffokfkaaGreatDoor.fl
  split
  · exact h
  · exact ⟨by simpa [pl_len] using h.n1, by simpa [pl_len] using h.n2, by simpa [pl_len] using h.nn, h.bn, pl_all _ _ h.bl (fun p hp => (h.br p hp).2), fun p hp => (by cases hp)⟩
theorem Fine.cr {S : MS} (h : Fine S) (f : Nat → Bool) : Fine (cr S f) := by
  have ha := pl_all _ _ h.bl (fun p hp => (h.br p (tk_mem (fun k _ => f k) S.row 0 p hp)).2)
  exact ⟨by simpa [Go.Proofs.YtonooelffokfkaaGreatDoor.cr, pl_len] using h.n1, by simpa [Go.Proofs.YtonooelffokfkaaGreatDoor.cr, pl_len] using h.n2, rfl, ha, ha, fun p hp => (by cases hp)⟩
theorem Fine.fa {S : MS} (h : Fine S) : Fine (fa S) := ⟨h.n1, h.n2, h.nn, h.bn, h.bl, fun p hp => (by cases hp)⟩
theorem Fine.rp {S : MS} (h : Fine S) : Fine (rp S) := ⟨by simpa [Go.Proofs.YtonooelffokfkaaGreatDoor.rp] using h.n1, by simpa [Go.Proofs.YtonooelffokfkaaGreatDoor.rp] using h.n2, rfl, rep_all _, rep_all _, fun p hp => (by cases hp)⟩
theorem Fine.rt {S : MS} (h : Fine S) (k : Int) (s : ByteArray) : Fine (rt S k s) := by
  unfold Go.Proofs.YtonooelffokfkaaGreatDoor.rt
  split
  · rename_i hw
    unfold rtB at hw
    rw [Bool.and_eq_true, decide_eq_true_eq, decide_eq_true_eq] at hw
    refine ⟨by simpa using h.n1, by simpa using h.n2, by simpa using h.nn, set_all h.bn _ _ hw.2, set_all h.bl _ _ hw.2, fun p hp => ?_⟩
    have := h.br p (tk_mem (nq k) S.row 0 p hp)
    exact ⟨by simpa using this.1, this.2⟩
  · exact h
theorem Right.nw (n : Nat) : Right (nw n) := ⟨fun _ => rfl, fun h => (by cases h)⟩
theorem Right.wr {S : MS} (h : Right S) (k : Int) (s : ByteArray) : Right (wr S k s) := by
  unfold Go.Proofs.YtonooelffokfkaaGreatDoor.wr
  split
  · rename_i hw
    obtain ⟨h1, _⟩ := wr_ok hw
    obtain ⟨hd, _⟩ := rc_ok h1
    refine ⟨fun _ => ?_, fun hx => ?_⟩
    · show S.now.set k.toNat s = pl S.las (S.row ++ [(k.toNat, s)])
      rw [pl_one, h.live hd]
    · have : S.dead = true := hx
      rw [hd] at this; cases this
  · exact h
theorem Right.rd {S : MS} (h : Right S) (k : Int) : Right (rd S k) := by
  unfold Go.Proofs.YtonooelffokfkaaGreatDoor.rd
  split
  · exact ⟨h.live, h.gone⟩
  · exact h
theorem Right.fl {S : MS} (h : Right S) : Right (fl S) := by
  unfold Go.Proofs.YtonooelffokfkaaGreatDoor.fl
  split
  · exact h
  · exact ⟨fun hd => h.live hd, fun _ => rfl⟩
theorem Right.cr {S : MS} (f : Nat → Bool) : Right (cr S f) := ⟨fun _ => rfl, fun _ => rfl⟩
theorem Right.fa {S : MS} : Right (fa S) := ⟨fun h => (by cases h), fun _ => rfl⟩
theorem Right.rp {S : MS} : Right (rp S) := ⟨fun _ => rfl, fun _ => rfl⟩
theorem pl_rot : ∀ (r : List (Nat × ByteArray)) (j : Nat) (l : List ByteArray) (i : Nat) (s : ByteArray), pl (l.set i s) (tk (nq (i : Int)) j r) = (pl l r).set i s
  | [], _, _, _, _ => rfl
  | p :: r, j, l, i, s => by
    simp only [tk]
    by_cases e : p.1 = i
    · rw [if_neg (show ¬ nq (i : Int) j p = true by simp [nq, e])]
      simp only [pl]
      have := pl_rot r (j + 1) (l.set p.1 p.2) i s
      rw [e, List.set_set] at this
      rw [e]; exact this
    · rw [if_pos (show nq (i : Int) j p = true by simp [nq]; omega)]
      simp only [pl]
      rw [List.set_comm _ _ (fun e' => e e'.symm)]
      exact pl_rot r (j + 1) _ i s
theorem Right.rt {S : MS} (h : Right S) (k : Int) (s : ByteArray) : Right (rt S k s) := by
  unfold Go.Proofs.YtonooelffokfkaaGreatDoor.rt
  split
  · rename_i hw
    unfold rtB at hw
    rw [Bool.and_eq_true, decide_eq_true_eq, decide_eq_true_eq] at hw
    obtain ⟨hd, h0, _⟩ := rc_ok hw.1
    refine ⟨fun _ => ?_, fun hx => ?_⟩
    · show S.now.set k.toNat s = pl (S.las.set k.toNat s) (tk (nq k) 0 S.row)
      have := pl_rot S.row 0 S.las k.toNat s
      rw [show ((k.toNat : Nat) : Int) = k by omega] at this
      rw [this, h.live hd]
    · have : S.dead = true := hx
      rw [hd] at this; cases this
  · exact h

end Go.Proofs.YtonooelffokfkaaGreatDoor

namespace Go.Proofs.YtonooelffokfkaaGreatDoor
open Go.RowKit Plain

theorem Sp.setCells {T : List Nat} {a : World} (B : Nat) (hB : B ∈ T) : ∀ (vs : List Value) (o : Nat) (b : World), Sp T a b → Sp T a (b.setCells B o vs)
  | [], _, _, h => h
  | v :: r, o, b, h => by
    rw [World.setCells]
    exact Sp.setCells B hB r (o + 1) _ (h.set B o hB v)
/-- the blocks of T' are those of T, or new. -/
def Nw (w : World) (T T' : List Nat) : Prop := ∀ t, t ∈ T' → t ∈ T ∨ w.heap.size ≤ t
theorem Nw.refl (w : World) (T : List Nat) : Nw w T T := fun _ h => .inl h
theorem Nw.trans {w w' : World} {T T' T'' : List Nat} (h : Nw w T T') (k : Nw w' T' T'') (hs : w.heap.size ≤ w'.heap.size) : Nw w T T'' := fun t ht => by
  rcases k t ht with h1 | h1
  · exact h t h1
  · exact .inr (Nat.le_trans hs h1)
/-- two steps, the second at blocks that the first one left. -/
theorem Sp.then {T T' : List Nat} {a b c : World} (h : Sp T a b) (k : Sp T' b c) (hn : Nw a T T') : Sp T a c :=
  ⟨k.os.trans h.os, k.tape.trans h.tape, k.output.trans h.output, Nat.le_trans h.size k.size, fun i hi hT => (k.block i (Nat.lt_of_lt_of_le hi h.size) (fun ht => by
    rcases hn i ht with h1 | h1
    · exact hT h1
    · omega)).trans (h.block i hi hT)⟩
theorem Sp.range {T : List Nat} {w w' : World} (h : Sp T w w') {b o : Nat} {cs : List Value} (hc : w.rangeAt b o cs) (hn : b ∉ T) : w'.rangeAt b o cs := fun j v hv => h.held (hc j v hv) hn
theorem Sp.there {T : List Nat} {w w' : World} (h : Sp T w w') {b o n : Nat} (hc : w.there b o n) (hn : b ∉ T) : w'.there b o n := fun j hj => by
  obtain ⟨h1, h2⟩ := hc j hj
  obtain ⟨v, hv⟩ := Option.isSome_iff_exists.1 h1
  have hb := World.block_lt_of_cell? w _ hv
  exact ⟨by rw [h.held hv hn]; rfl, (h.frozen hb hn _).trans h2⟩
theorem Sp.own {T : List Nat} {w w' : World} (h : Sp T w w') {base : Nat} {e : TypeId} {size : Nat} {v : Value} {n : Nat} {xs : List Value} (ho : w.ownsRow base e size v n xs) (hn : ∀ g, v.ownBlock = some g → g ∉ T) : w'.ownsRow base e size v n xs := by
  rcases ho.2 with ⟨h', h0⟩ | ⟨g, cap, cur, h', hb, hg, hr⟩
  · exact ⟨ho.1, .inl ⟨h', h0⟩⟩
  · refine ⟨ho.1, .inr ⟨g, cap, cur, h', hb, (h.block g (Array.getElem?_eq_some_iff.1 hg).1 (hn g (by rw [h']; rfl))).trans hg, hr⟩⟩

/-! ### sectors -/
theorem bc_len (s : ByteArray) : (byteCells s).length = s.size := byteCells_length s
theorem bc_one (s : ByteArray) : ∀ v ∈ byteCells s, v.oneCell' = true := by
  intro v hv
  obtain ⟨b, _, rfl⟩ := List.mem_map.1 hv
  rfl
theorem getD_set_eq {α : Type} {L : List α} {i : Nat} (h : i < L.length) (t d : α) : (L.set i t).getD i d = t := by
  rw [List.getD_eq_getElem?_getD, List.getElem?_set_self h]; rfl
theorem getD_set_ne {α : Type} {L : List α} {i j : Nat} (h : i ≠ j) (t d : α) : (L.set i t).getD j d = L.getD j d := by
  rw [List.getD_eq_getElem?_getD, List.getElem?_set_ne h, ← List.getD_eq_getElem?_getD]
structure SecIn (w : World) (g : Nat) (L : List ByteArray) : Prop where
  c : ∀ i, i < L.length → w.rangeAt g (i * 64) (byteCells (L.getD i noS))
  t : w.there g 0 (L.length * 64)
  z : ∀ s ∈ L, s.size = 64
theorem SecIn.sz {w : World} {g : Nat} {L : List ByteArray} (h : SecIn w g L) {i : Nat} (hi : i < L.length) : (byteCells (L.getD i noS)).length = 64 := by rw [bc_len]; exact h.z _ (getD_mem hi)
theorem SecIn.at {w : World} {g : Nat} {L : List ByteArray} (h : SecIn w g L) {i : Nat} (hi : i < L.length) : w.there g (i * 64) 64 := fun j hj => by
  have := h.t (i * 64 + j) (by omega)
  rwa [Nat.zero_add] at this
theorem SecIn.sp {w w' : World} {g : Nat} {L : List ByteArray} (h : SecIn w g L) {T : List Nat} (k : Sp T w w') (hg : g ∉ T) : SecIn w' g L :=
  ⟨fun i hi => k.range (h.c i hi) hg, k.there h.t hg, h.z⟩
theorem SecIn.set {w : World} {g : Nat} {L : List ByteArray} (h : SecIn w g L) (i : Nat) (hi : i < L.length) (s : ByteArray) (hs : s.size = 64) : SecIn (w.setCells g (i * 64) (byteCells s)) g (L.set i s) := by
  refine ⟨fun j hj => ?_, ?_, set_all h.z i s hs⟩
  · rw [List.length_set] at hj
    by_cases e : i = j
    · subst e
      rw [getD_set_eq hi]
      exact World.rangeAt_setCells_same w g _ _ (by rw [bc_len, hs]; exact h.at hi)
    · rw [getD_set_ne e]
      refine World.rangeAt_setCells_apart (h.c j hj) g _ _ (.inr ?_)
      have := h.sz hj
      rw [this, bc_len, hs]
      omega
  · rw [List.length_set]; exact World.there_setCells h.t g _ _

/-! ### writes -/
def wc (p : Nat × ByteArray) : List Value := .int .i64 (p.1 : Int) :: byteCells p.2
theorem wc_len (p : Nat × ByteArray) : (wc p).length = p.2.size + 1 := by simp only [wc, List.length_cons, bc_len]
theorem wc_one (p : Nat × ByteArray) : ∀ v ∈ wc p, v.oneCell' = true := by
  intro v hv
  rcases List.mem_cons.1 hv with rfl | hv
  · rfl
  · exact bc_one _ v hv
def wcs : List (Nat × ByteArray) → List Value
  | [] => []
  | p :: r => wc p ++ wcs r
theorem wcs_len : ∀ r, (∀ p ∈ r, p.2.size = 64) → (wcs r).length = r.length * 65
  | [], _ => rfl
  | p :: r, h => by
    simp only [wcs, List.length_append, List.length_cons, wcs_len r (fun q hq => h q (List.mem_cons_of_mem _ hq)), wc_len, h p List.mem_cons_self]
    omega
theorem wcs_at : ∀ (r : List (Nat × ByteArray)) (i : Nat), (∀ p ∈ r, p.2.size = 64) → i < r.length → ∀ (j : Nat) (u : Value), (wc (r.getD i (0, noS)))[j]? = some u → (wcs r)[i * 65 + j]? = some u
  | [], i, _, h, _, _, _ => by simp at h
  | p :: r, 0, hz, _, j, u, hu => by
    have hu' : (wc p)[j]? = some u := hu
    have hj := (List.getElem?_eq_some_iff.1 hu').1
    rw [Nat.zero_mul, Nat.zero_add]
    show (wc p ++ wcs r)[j]? = some u
    rw [List.getElem?_append_left hj]
    exact hu'
  | p :: r, i + 1, hz, h, j, u, hu => by
    have h1 := wcs_at r i (fun q hq => hz q (List.mem_cons_of_mem _ hq)) (by simpa using h) j u hu
    show (wc p ++ wcs r)[(i + 1) * 65 + j]? = some u
    have hl : (wc p).length = 65 := by rw [wc_len, hz p List.mem_cons_self]
    rw [List.getElem?_append_right (by rw [hl]; omega), hl, show (i + 1) * 65 + j - 65 = i * 65 + j by omega]
    exact h1
structure RowIn (w : World) (v : Value) (r : List (Nat × ByteArray)) : Prop where
  o : w.ownsRow 0 165 65 v r.length (wcs r)
  z : ∀ p ∈ r, p.2.size = 64
theorem RowIn.nil (w : World) : RowIn w (.slice none 0 0) [] := ⟨World.ownsRow_nil w 0 _ 65, fun p h => (by cases h)⟩
theorem RowIn.sp {w w' : World} {v : Value} {r : List (Nat × ByteArray)} (h : RowIn w v r) {T : List Nat} (k : Sp T w w') (hg : ∀ g, v.ownBlock = some g → g ∉ T) : RowIn w' v r := ⟨k.own h.o hg, h.z⟩
/-- a row that isn't empty. -/
theorem RowIn.some {w : World} {v : Value} {r : List (Nat × ByteArray)} (h : RowIn w v r) (h0 : 0 < r.length) : ∃ g cap, v = .slice (some ⟨g, 0, none⟩) r.length cap ∧ r.length ≤ cap ∧ cap ≤ maxLen ∧ w.there g 0 (cap * 65) ∧ (∀ i, i < r.length → w.rangeAt g (i * 65) (wc (r.getD i (0, noS)))) := by
  rcases h.o.2 with ⟨_, h1⟩ | ⟨g, cap, cur, rfl, _, hg, hn, hm, hcs, htake⟩
  · omega
  · refine ⟨g, cap, rfl, hn, hm, fun j hj => ?_, fun i hi j u hu => ?_⟩
    · have hj2 : j < cur.size := by rw [hcs]; exact hj
      simp [World.cell?, World.frozen?, hg, hj2]
    · have h2 := wcs_at r i h.z hi j u hu
      have h3 := h.o.cellAt (i * 65 + j) (by have := (List.getElem?_eq_some_iff.1 h2).1; rw [wcs_len r h.z] at this; exact this)
      rw [h3, h2]
theorem RowIn.len {w : World} {v : Value} {r : List (Nat × ByteArray)} (h : RowIn w v r) : ∃ a cap, v = .slice a r.length cap ∧ r.length ≤ cap ∧ cap ≤ 9223372036854775807 := by
  rcases h.o.2 with ⟨rfl, h1⟩ | ⟨g, cap, cur, rfl, _, _, hn, hm, _⟩
  · exact ⟨none, 0, by rw [h1], by omega, by omega⟩
  · exact ⟨_, cap, rfl, hn, by unfold maxLen at hm; omega⟩

/-! ### a member -/
structure MemIn (w : World) (b bn bl : Nat) (rv : Value) (S : MS) (x y : Int) : Prop where
  hb : b < w.heap.size
  cn : ∀ j, j < 4 → w.cell? ⟨b, j, none⟩ = some (.int .i64 (S.c j))
  l4 : w.cell? ⟨b, 4, none⟩ = some (.int .i32 x)
  l6 : w.cell? ⟨b, 6, none⟩ = some (.int .u32 0)
  l7 : w.cell? ⟨b, 7, none⟩ = some (.int .u32 0)
  l8 : w.cell? ⟨b, 8, none⟩ = some (.int .i32 y)
  cN : w.cell? ⟨b, 10, none⟩ = some (.slice (some ⟨bn, 0, none⟩) S.las.length S.las.length)
  cL : w.cell? ⟨b, 11, none⟩ = some (.slice (some ⟨bl, 0, none⟩) S.las.length S.las.length)
  cR : w.cell? ⟨b, 12, none⟩ = some rv
  cD : w.cell? ⟨b, 13, none⟩ = some (.bool S.dead)
  z : ∀ o, w.frozen? ⟨b, o, none⟩ = false
  sn : SecIn w bn S.now
  sl : SecIn w bl S.las
  rw : RowIn w rv S.row
  n1 : bn ≠ b
  n2 : bl ≠ b
  n3 : bl ≠ bn
  n4 : ∀ g, rv.ownBlock = some g → g ≠ b ∧ g ≠ bn ∧ g ≠ bl
  fine : Fine S
/-- its blocks. -/
def blk (b bn bl : Nat) (rv : Value) : List Nat := b :: bn :: bl :: rv.ownBlock.toList
theorem MemIn.sp {w w' : World} {b bn bl : Nat} {rv : Value} {S : MS} {x y : Int} (h : MemIn w b bn bl rv S x y) {T : List Nat} (k : Sp T w w') (hT : ∀ t, t ∈ blk b bn bl rv → t ∉ T) : MemIn w' b bn bl rv S x y := by
  have h0 : b ∉ T := hT b (by simp [blk])
  exact ⟨Nat.lt_of_lt_of_le h.hb k.size, fun j hj => k.held (h.cn j hj) h0, k.held h.l4 h0, k.held h.l6 h0, k.held h.l7 h0, k.held h.l8 h0, k.held h.cN h0, k.held h.cL h0, k.held h.cR h0, k.held h.cD h0,
    fun o => (k.frozen h.hb h0 o).trans (h.z o), h.sn.sp k (hT bn (by simp [blk])), h.sl.sp k (hT bl (by simp [blk])), h.rw.sp k (fun g hg => hT g (by simp [blk, hg])), h.n1, h.n2, h.n3, h.n4, h.fine⟩
theorem MemIn.kp {w w' : World} {b bn bl : Nat} {rv : Value} {S : MS} {x y : Int} (h : MemIn w b bn bl rv S x y) (k : Kp w w') : MemIn w' b bn bl rv S x y := h.sp (k.sp []) (fun _ _ h => by cases h)
/-- a store into its own block. -/
theorem MemIn.own {w w' : World} {b bn bl : Nat} {rv : Value} {S : MS} {x y : Int} (h : MemIn w b bn bl rv S x y) (k : Sp [b] w w') : SecIn w' bn S.now ∧ SecIn w' bl S.las ∧ RowIn w' rv S.row :=
  ⟨h.sn.sp k (by simpa using h.n1), h.sl.sp k (by simpa using h.n2), h.rw.sp k (fun g hg => by simpa using (h.n4 g hg).1)⟩
theorem MemIn.lock {w : World} {b bn bl : Nat} {rv : Value} {S : MS} {x y : Int} (h : MemIn w b bn bl rv S x y) (x' : Int) : MemIn (w.setCell ⟨b, 4, none⟩ (.int .i32 x')) b bn bl rv S x' y := by
  obtain ⟨h1, h2, h3⟩ := h.own ((Sp.refl [b] w).set b 4 (by simp) (.int .i32 x'))
  exact ⟨by simpa [World.setCell] using h.hb, fun j hj => by rw [cell_off _ _ _ _ _ (by omega)]; exact h.cn j hj, World.cell?_setCell_same _ _ _ h.l4, by rw [cell_off _ _ _ _ _ (by omega)]; exact h.l6, by rw [cell_off _ _ _ _ _ (by omega)]; exact h.l7, by rw [cell_off _ _ _ _ _ (by omega)]; exact h.l8,
    by rw [cell_off _ _ _ _ _ (by omega)]; exact h.cN, by rw [cell_off _ _ _ _ _ (by omega)]; exact h.cL, by rw [cell_off _ _ _ _ _ (by omega)]; exact h.cR, by rw [cell_off _ _ _ _ _ (by omega)]; exact h.cD,
    fun o => (World.frozen?_setCell _ _ _ _).trans (h.z o), h1, h2, h3, h.n1, h.n2, h.n3, h.n4, h.fine⟩
theorem MemIn.readers {w : World} {b bn bl : Nat} {rv : Value} {S : MS} {x y : Int} (h : MemIn w b bn bl rv S x y) (y' : Int) : MemIn (w.setCell ⟨b, 8, none⟩ (.int .i32 y')) b bn bl rv S x y' := by
  obtain ⟨h1, h2, h3⟩ := h.own ((Sp.refl [b] w).set b 8 (by simp) (.int .i32 y'))
  exact ⟨by simpa [World.setCell] using h.hb, fun j hj => by rw [cell_off _ _ _ _ _ (by omega)]; exact h.cn j hj, by rw [cell_off _ _ _ _ _ (by omega)]; exact h.l4, by rw [cell_off _ _ _ _ _ (by omega)]; exact h.l6, by rw [cell_off _ _ _ _ _ (by omega)]; exact h.l7, World.cell?_setCell_same _ _ _ h.l8,
    by rw [cell_off _ _ _ _ _ (by omega)]; exact h.cN, by rw [cell_off _ _ _ _ _ (by omega)]; exact h.cL, by rw [cell_off _ _ _ _ _ (by omega)]; exact h.cR, by rw [cell_off _ _ _ _ _ (by omega)]; exact h.cD,
    fun o => (World.frozen?_setCell _ _ _ _).trans (h.z o), h1, h2, h3, h.n1, h.n2, h.n3, h.n4, h.fine⟩
theorem MemIn.count {w : World} {b bn bl : Nat} {rv : Value} {S : MS} {x y : Int} (h : MemIn w b bn bl rv S x y) (i : Nat) (hi : i < 4) : MemIn (w.setCell ⟨b, i, none⟩ (.int .i64 (wrap64 (S.c i + 1)))) b bn bl rv ⟨S.now, S.las, S.row, S.dead, up S.c i⟩ x y := by
  obtain ⟨h1, h2, h3⟩ := h.own ((Sp.refl [b] w).set b i (by simp) (.int .i64 (wrap64 (S.c i + 1))))
  refine ⟨by simpa [World.setCell] using h.hb, fun j hj => ?_, by rw [cell_off _ _ _ _ _ (by omega)]; exact h.l4, by rw [cell_off _ _ _ _ _ (by omega)]; exact h.l6, by rw [cell_off _ _ _ _ _ (by omega)]; exact h.l7, by rw [cell_off _ _ _ _ _ (by omega)]; exact h.l8,
    by rw [cell_off _ _ _ _ _ (by omega)]; exact h.cN, by rw [cell_off _ _ _ _ _ (by omega)]; exact h.cL, by rw [cell_off _ _ _ _ _ (by omega)]; exact h.cR, by rw [cell_off _ _ _ _ _ (by omega)]; exact h.cD,
    fun o => (World.frozen?_setCell _ _ _ _).trans (h.z o), h1, h2, h3, h.n1, h.n2, h.n3, h.n4, ⟨h.fine.n1, h.fine.n2, h.fine.nn, h.fine.bn, h.fine.bl, h.fine.br⟩⟩
  show _ = some (Value.int .i64 (up S.c i j))
  unfold up
  by_cases e : j = i
  · subst e; rw [World.cell?_setCell_same _ _ _ (h.cn j hj), if_pos rfl]
  · rw [cell_off _ _ _ _ _ e, h.cn j hj, if_neg e]
theorem MemIn.death {w : World} {b bn bl : Nat} {rv : Value} {S : MS} {x y : Int} (h : MemIn w b bn bl rv S x y) (d : Bool) : MemIn (w.setCell ⟨b, 13, none⟩ (.bool d)) b bn bl rv ⟨S.now, S.las, S.row, d, S.c⟩ x y := by
  obtain ⟨h1, h2, h3⟩ := h.own ((Sp.refl [b] w).set b 13 (by simp) (.bool d))
  exact ⟨by simpa [World.setCell] using h.hb, fun j hj => by rw [cell_off _ _ _ _ _ (by omega)]; exact h.cn j hj, by rw [cell_off _ _ _ _ _ (by omega)]; exact h.l4, by rw [cell_off _ _ _ _ _ (by omega)]; exact h.l6, by rw [cell_off _ _ _ _ _ (by omega)]; exact h.l7, by rw [cell_off _ _ _ _ _ (by omega)]; exact h.l8,
    by rw [cell_off _ _ _ _ _ (by omega)]; exact h.cN, by rw [cell_off _ _ _ _ _ (by omega)]; exact h.cL, by rw [cell_off _ _ _ _ _ (by omega)]; exact h.cR, World.cell?_setCell_same _ _ _ h.cD,
    fun o => (World.frozen?_setCell _ _ _ _).trans (h.z o), h1, h2, h3, h.n1, h.n2, h.n3, h.n4, ⟨h.fine.n1, h.fine.n2, h.fine.nn, h.fine.bn, h.fine.bl, h.fine.br⟩⟩
/-- another row. -/
theorem MemIn.row {w : World} {b bn bl : Nat} {rv : Value} {S : MS} {x y : Int} (h : MemIn w b bn bl rv S x y) {w' : World} (k : Sp (rv.ownBlock.toList) w w') (rv' : Value) (r : List (Nat × ByteArray)) (hr : RowIn w' rv' r) (hn : ∀ g, rv'.ownBlock = some g → g ≠ b ∧ g ≠ bn ∧ g ≠ bl) (hz : ∀ p ∈ r, p.1 < S.las.length) :
    MemIn (w'.setCell ⟨b, 12, none⟩ rv') b bn bl rv' ⟨S.now, S.las, r, S.dead, S.c⟩ x y := by
  have q := (Sp.refl [b] w').set b 12 (by simp) rv'
  have hT : ∀ t, t = b ∨ t = bn ∨ t = bl → t ∉ rv.ownBlock.toList := fun t ht hm => by
    obtain ⟨h1, h2, h3⟩ := h.n4 t (by simpa using hm)
    rcases ht with rfl | rfl | rfl
    · exact h1 rfl
    · exact h2 rfl
    · exact h3 rfl
  have hB := hT b (.inl rfl)
  have hl := Nat.lt_of_lt_of_le h.hb k.size
  exact ⟨Nat.lt_of_lt_of_le hl q.size, fun j hj => by rw [cell_off _ _ _ _ _ (by omega)]; exact k.held (h.cn j hj) hB, by rw [cell_off _ _ _ _ _ (by omega)]; exact k.held h.l4 hB, by rw [cell_off _ _ _ _ _ (by omega)]; exact k.held h.l6 hB, by rw [cell_off _ _ _ _ _ (by omega)]; exact k.held h.l7 hB, by rw [cell_off _ _ _ _ _ (by omega)]; exact k.held h.l8 hB,
    by rw [cell_off _ _ _ _ _ (by omega)]; exact k.held h.cN hB, by rw [cell_off _ _ _ _ _ (by omega)]; exact k.held h.cL hB, World.cell?_setCell_same _ _ _ (k.held h.cR hB), by rw [cell_off _ _ _ _ _ (by omega)]; exact k.held h.cD hB,
    fun o => (World.frozen?_setCell _ _ _ _).trans ((k.frozen h.hb hB o).trans (h.z o)), (h.sn.sp k (hT bn (.inr (.inl rfl)))).sp q (by simpa using h.n1), (h.sl.sp k (hT bl (.inr (.inr rfl)))).sp q (by simpa using h.n2), hr.sp q (fun g hg => by simpa using (hn g hg).1),
    h.n1, h.n2, h.n3, hn, ⟨h.fine.n1, h.fine.n2, h.fine.nn, h.fine.bn, h.fine.bl, fun p hp => ⟨hz p hp, hr.z p hp⟩⟩⟩
/-- other sectors. -/
theorem MemIn.nows {w : World} {b bn bl : Nat} {rv : Value} {S : MS} {x y : Int} (h : MemIn w b bn bl rv S x y) {w' : World} (k : Sp [bn] w w') (L : List ByteArray) (hL : SecIn w' bn L) (hl : L.length = S.las.length) : MemIn w' b bn bl rv ⟨L, S.las, S.row, S.dead, S.c⟩ x y := by
  have h0 : b ∉ [bn] := by simpa using h.n1.symm
  exact ⟨Nat.lt_of_lt_of_le h.hb k.size, fun j hj => k.held (h.cn j hj) h0, k.held h.l4 h0, k.held h.l6 h0, k.held h.l7 h0, k.held h.l8 h0, k.held h.cN h0, k.held h.cL h0, k.held h.cR h0, k.held h.cD h0,
    fun o => (k.frozen h.hb h0 o).trans (h.z o), hL, h.sl.sp k (by simpa using h.n3), h.rw.sp k (fun g hg => by simpa using (h.n4 g hg).2.1), h.n1, h.n2, h.n3, h.n4, ⟨h.fine.n1, h.fine.n2, hl, hL.z, h.fine.bl, h.fine.br⟩⟩
theorem MemIn.lasts {w : World} {b bn bl : Nat} {rv : Value} {S : MS} {x y : Int} (h : MemIn w b bn bl rv S x y) {w' : World} (k : Sp [bl] w w') (L : List ByteArray) (hL : SecIn w' bl L) (hl : L.length = S.las.length) : MemIn w' b bn bl rv ⟨S.now, L, S.row, S.dead, S.c⟩ x y := by
  have h0 : b ∉ [bl] := by simpa using h.n2.symm
  exact ⟨Nat.lt_of_lt_of_le h.hb k.size, fun j hj => k.held (h.cn j hj) h0, k.held h.l4 h0, k.held h.l6 h0, k.held h.l7 h0, k.held h.l8 h0, by show _ = some (Value.slice _ L.length L.length); rw [hl]; exact k.held h.cN h0, by show _ = some (Value.slice _ L.length L.length); rw [hl]; exact k.held h.cL h0, k.held h.cR h0, k.held h.cD h0,
    fun o => (k.frozen h.hb h0 o).trans (h.z o), h.sn.sp k (by simpa using h.n3.symm), hL, h.rw.sp k (fun g hg => by simpa using (h.n4 g hg).2.2), h.n1, h.n2, h.n3, h.n4, ⟨by show 1 ≤ L.length; rw [hl]; exact h.fine.n1, by show L.length ≤ 256; rw [hl]; exact h.fine.n2, by show _ = L.length; rw [hl]; exact h.fine.nn, h.fine.bn, hL.z, fun p hp => ⟨by show _ < L.length; rw [hl]; exact (h.fine.br p hp).1, (h.fine.br p hp).2⟩⟩⟩
theorem MemIn.low {w : World} {b bn bl : Nat} {rv : Value} {S : MS} {x y : Int} (h : MemIn w b bn bl rv S x y) : ∀ t, t ∈ blk b bn bl rv → t < w.heap.size := fun t ht => by
  have hn := h.fine.n1
  have e1 : bn < w.heap.size := by
    obtain ⟨v, hv⟩ := Option.isSome_iff_exists.1 (h.sn.t 0 (by have := h.fine.nn; omega)).1
    exact World.block_lt_of_cell? w _ hv
  have e2 : bl < w.heap.size := by
    obtain ⟨v, hv⟩ := Option.isSome_iff_exists.1 (h.sl.t 0 (by omega)).1
    exact World.block_lt_of_cell? w _ hv
  simp only [blk, List.mem_cons] at ht
  rcases ht with rfl | rfl | rfl | ht
  · exact h.hb
  · exact e1
  · exact e2
  · exact (h.rw.o.lt t (by simpa using ht)).2

end Go.Proofs.YtonooelffokfkaaGreatDoor

namespace Go.Proofs.YtonooelffokfkaaGreatDoor
open Go.RowKit Plain Go.RwLone
set_option linter.unusedVariables false

theorem hid {p : Prop} (h : p) : Hid p := h
/-- behind a call: the member, and what was turned. -/
def Md (w w' : World) (b bn bl : Nat) (rv : Value) (S : MS) : Prop := ∃ rv', MemIn w' b bn bl rv' S 0 0 ∧ Sp (blk b bn bl rv) w w' ∧ Nw w (blk b bn bl rv) (blk b bn bl rv')
theorem b_mem (b bn bl : Nat) (rv : Value) : b ∈ blk b bn bl rv := by simp [blk]
theorem bn_mem (b bn bl : Nat) (rv : Value) : bn ∈ blk b bn bl rv := by simp [blk]
theorem bl_mem (b bn bl : Nat) (rv : Value) : bl ∈ blk b bn bl rv := by simp [blk]
theorem Sp.b {w w' : World} {b bn bl : Nat} {rv : Value} (h : Sp [b] w w') : Sp (blk b bn bl rv) w w' := h.mono (fun t ht => by simp at ht; subst ht; exact b_mem _ _ _ _)
theorem Sp.bn {w w' : World} {b bn bl : Nat} {rv : Value} (h : Sp [bn] w w') : Sp (blk b bn bl rv) w w' := h.mono (fun t ht => by simp at ht; subst ht; exact bn_mem _ _ _ _)
theorem Sp.bl {w w' : World} {b bn bl : Nat} {rv : Value} (h : Sp [bl] w w') : Sp (blk b bn bl rv) w w' := h.mono (fun t ht => by simp at ht; subst ht; exact bl_mem _ _ _ _)
theorem Sp.rw {w w' : World} {b bn bl : Nat} {rv : Value} (h : Sp rv.ownBlock.toList w w') : Sp (blk b bn bl rv) w w' := h.mono (fun t ht => by simp [blk]; exact .inr (.inr (.inr (by simpa using ht))))
theorem Md.same {w w' : World} {b bn bl : Nat} {rv : Value} {S : MS} (h : MemIn w' b bn bl rv S 0 0) (k : Sp (blk b bn bl rv) w w') : Md w w' b bn bl rv S := ⟨rv, h, k, Nw.refl _ _⟩
theorem Nw.none (w : World) (b bn bl : Nat) (rv : Value) : Nw w (blk b bn bl rv) (blk b bn bl (.slice none 0 0)) := fun t ht => .inl (by
  simp [blk, Value.ownBlock] at ht
  rcases ht with rfl | rfl | rfl
  · exact b_mem _ _ _ _
  · exact bn_mem _ _ _ _
  · exact bl_mem _ _ _ _)

/-! ### the lock -/
theorem lock_any {w : World} {b bn bl : Nat} {rv : Value} {S : MS} (h : MemIn w b bn bl rv S 0 0) : Calls Tryz.prog 54 #[.pointer (some ⟨b, 4, none⟩)] w fun e w' => e = .returned (.tuple #[]) ∧ MemIn w' b bn bl rv S 1 (-1073741824) ∧ Sp [b] w w' := by
  refine (wlock_free rwWLib b 4 _ _ w h.l4 h.l6 h.l7 h.l8 (h.z 4) (h.z 8)).mono ?_
  rintro e w' ⟨rfl, rfl⟩
  exact ⟨rfl, (h.lock 1).readers _, ((Sp.refl [b] w).set b 4 (by simp) _).set b 8 (by simp) _⟩
theorem unlock_any {w : World} {b bn bl : Nat} {rv : Value} {S : MS} (h : MemIn w b bn bl rv S 1 (-1073741824)) (u : FrameMode) : CallsD Tryz.prog 55 #[.pointer (some ⟨b, 4, none⟩)] u w fun e u' w' => u' = u ∧ (e = .returned (.tuple #[]) ∧ MemIn w' b bn bl rv S 0 0 ∧ Sp [b] w w') := by
  refine (wunlock_deferred rwWLib b 4 _ _ u w h.l4 h.l6 h.l7 h.l8 (h.z 4) (h.z 8)).mono ?_
  rintro e u' w' ⟨rfl, rfl, rfl⟩
  exact ⟨rfl, rfl, (h.readers 0).lock _, ((Sp.refl [b] w).set b 8 (by simp) _).set b 4 (by simp) _⟩
theorem up1 : wrap32 (0 + 1) = 1 := by simp only [wrap32]; omega
theorem dn1 : wrap32 (1 + -1) = 0 := by simp only [wrap32]; omega
theorem rlock_any {w : World} {b bn bl : Nat} {rv : Value} {S : MS} (h : MemIn w b bn bl rv S 0 0) : Calls Tryz.prog 183 #[.pointer (some ⟨b, 4, none⟩)] w fun e w' => e = .returned (.tuple #[]) ∧ MemIn w' b bn bl rv S 0 1 ∧ Sp [b] w w' := by
  refine (rlock_open rwRLib b 4 0 _ _ w h.l4 h.l7 h.l8 (h.z 8) (by rw [up1]; decide)).mono ?_
  rintro e w' ⟨rfl, rfl⟩
  rw [up1]
  exact ⟨rfl, h.readers _, (Sp.refl [b] w).set b 8 (by simp) _⟩
theorem runlock_any {w : World} {b bn bl : Nat} {rv : Value} {S : MS} (h : MemIn w b bn bl rv S 0 1) (u : FrameMode) : CallsD Tryz.prog 184 #[.pointer (some ⟨b, 4, none⟩)] u w fun e u' w' => u' = u ∧ (e = .returned (.tuple #[]) ∧ MemIn w' b bn bl rv S 0 0 ∧ Sp [b] w w') := by
  refine (runlock_deferred rwRLib b 4 1 _ _ u w h.l4 h.l6 h.l8 (h.z 8) (by rw [dn1]; decide)).mono ?_
  rintro e u' w' ⟨rfl, rfl, rfl⟩
  rw [dn1]
  exact ⟨rfl, rfl, h.readers _, (Sp.refl [b] w).set b 8 (by simp) _⟩

/-! ### the counts -/
theorem load_count (a : Addr) (d : Int) (w : World) (hc : w.cell? a = some (.int .i64 d)) : Calls Tryz.prog 132 #[.pointer (some a)] w fun e w' => e = .returned (.int .i64 d) ∧ w' = w := by
  have hl := run_call_load (P := Tryz.prog) Tryz.func167 (by kernel_rfl) (by kernel_rfl) (by kernel_rfl) .i64 (by kernel_rfl) hc
  go_enter Tryz.func132, Tryz.ntmps132
  go_wp2
  go_ret
  exact ⟨rfl, rfl⟩
theorem add_count (a : Addr) (d : Int) (w : World) (hc : w.cell? a = some (.int .i64 d)) (hz : w.frozen? a = false) : Calls Tryz.prog 153 #[.pointer (some a), .int .i64 1] w fun e w' => e = .returned (.int .i64 (wrap64 (d + 1))) ∧ w' = w.setCell a (.int .i64 (wrap64 (d + 1))) := by
  have hadd := run_call_add (P := Tryz.prog) Tryz.func181 (by kernel_rfl) (by kernel_rfl) (by kernel_rfl) .i64 (by kernel_rfl) (y := 1) (s := wrap64 (d + 1)) hc hz (by simp [go_sem, wrap64, IntKind.wrap_i64])
  go_enter Tryz.func153, Tryz.ntmps153
  go_wp2
  go_ret
  exact ⟨rfl, rfl⟩
theorem count_any {w : World} {b bn bl : Nat} {rv : Value} {S : MS} {x y : Int} (h : MemIn w b bn bl rv S x y) (i : Nat) (hi : i < 4) : Calls Tryz.prog 153 #[.pointer (some ⟨b, i, none⟩), .int .i64 1] w fun e w' => (∃ v, e = .returned (.int .i64 v)) ∧ MemIn w' b bn bl rv ⟨S.now, S.las, S.row, S.dead, up S.c i⟩ x y ∧ Sp [b] w w' := by
  refine (add_count ⟨b, i, none⟩ _ w (h.cn i hi) (h.z i)).mono ?_
  rintro e w' ⟨rfl, rfl⟩
  exact ⟨⟨_, rfl⟩, h.count i hi, (Sp.refl [b] w).set b i (by simp) _⟩

/-! ### reach, Size -/
theorem reach_any {w : World} {b bn bl : Nat} {rv : Value} {S : MS} {x y : Int} (h : MemIn w b bn bl rv S x y) (k : Int) : Calls Tryz.prog 56 #[.pointer (some ⟨b, 0, none⟩), .int .i64 k] w fun e w' => e = .returned (.int .i64 (rcE S k)) ∧ Kp w w' := by
  have cN := h.cN
  have cD := h.cD
  have n2 := h.fine.n2
  obtain ⟨n, hn⟩ : ∃ n, n = S.las.length := ⟨_, rfl⟩
  rw [← hn] at cN n2
  unfold rcE
  rw [← hn]
  obtain ⟨d, hd⟩ : ∃ d, d = S.dead := ⟨_, rfl⟩
  rw [← hd] at cD ⊢
  clear hn hd h
  cases d with
  | true =>
    rw [if_pos rfl]
    go_enter Tryz.func56, Tryz.ntmps56
    go_wp2
    go_ret
    exact ⟨rfl, Kp.refl w⟩
  | false =>
    rw [if_neg (by simp)]
    by_cases h0 : 0 ≤ k
    · by_cases h1 : k < n
      · rw [if_pos ⟨h0, h1⟩]
        go_enter Tryz.func56, Tryz.ntmps56
        go_wp2
        go_ret
        exact ⟨rfl, Kp.refl w⟩
      · rw [if_neg (fun h => h1 h.2)]
        go_enter Tryz.func56, Tryz.ntmps56
        go_wp2
        go_ret
        exact ⟨rfl, Kp.refl w⟩
    · rw [if_neg (fun h => h0 h.1)]
      go_enter Tryz.func56, Tryz.ntmps56
      go_wp2
      go_ret
      exact ⟨rfl, Kp.refl w⟩

theorem fail_any {w : World} {b bn bl : Nat} {rv : Value} {S : MS} (h : MemIn w b bn bl rv S 0 0) : Calls Tryz.prog 16 #[.pointer (some ⟨b, 0, none⟩)] w fun e w' => e = .returned (.tuple #[]) ∧ Md w w' b bn bl rv (fa S) := by
  go_enter_defers Tryz.func16, Tryz.ntmps16
  go_wp2_with fail
  refine (lock_any h).mono ?_
  rintro e w1 ⟨rfl, h1, k1⟩
  have cD := h1.cD
  have cR := h1.cR
  have z13 := h1.z 13
  have z12 := h1.z 12
  go_wp2_with fail
  have h3 := (h1.death true).row (Sp.refl _ _) (.slice none 0 0) [] (RowIn.nil _) (fun g hg => by cases hg) (fun p hp => by cases hp)
  refine leaves_cons (f := 55) (args := #[.pointer (some ⟨b, 4, none⟩)]) (by simp) (by simp [go_sem]) ?_
  refine (unlock_any h3 .returning).mono ?_
  rintro e u' w2 ⟨rfl, rfl, h2, k2⟩
  refine ⟨_, results_none rfl _ _ _, rfl, _, h2, ?_, Nw.none _ _ _ _ _⟩
  exact (((k1.set b 13 (by simp) _).set b 12 (by simp) _).trans k2).b

end Go.Proofs.YtonooelffokfkaaGreatDoor

namespace Go.Proofs.YtonooelffokfkaaGreatDoor
open Go.RowKit Plain Go.RwLone
set_option linter.unusedVariables false


/-! ### Read -/
theorem text_at {w : World} {g : Nat} {L : List ByteArray} (h : SecIn w g L) (i : Nat) (hi : i < L.length) (c : Nat) : (convert 23 9 (.slice (some ⟨g, i * 64, none⟩) 64 c)).run Tryz.prog w = .ok (.string (L.getD i noS)) w := by
  have hz := h.z _ (getD_mem hi)
  have hr := h.c i hi
  obtain ⟨s, hs⟩ : ∃ s, s = L.getD i noS := ⟨_, rfl⟩
  rw [← hs] at hz hr ⊢
  have := run_convert_bytes_arg (P := Tryz.prog) w 23 5 Tryz.underlying23 Tryz.underlying5 g (i * 64) 64 c ((List.range 64).map fun (j : Nat) => ((bAt s (j : Int) : Nat) : Int)) (by simp) (fun j hj => ?_) 9 Tryz.underlying9
  · rw [this]
    have e := bs_self s
    rw [hz] at e
    show Result.ok (Value.string (bs 64 fun j => bAt s (j : Int))) w = _
    rw [e]
  · have hl : (byteCells s)[j]? = some (.int .u8 ((bAt s (j : Int) : Nat) : Int)) := by
      have h2 : j < s.data.toList.length := by simpa using (show j < s.size by omega)
      unfold byteCells
      rw [List.getElem?_map, List.getElem?_eq_getElem h2, bAt_nat s j (by omega)]
      rfl
    rw [hr j _ hl]
    simp [List.getD_eq_getElem?_getD, hj]
set_option maxRecDepth 100000 in
theorem read_any {w : World} {b bn bl : Nat} {rv : Value} {S : MS} (h : MemIn w b bn bl rv S 0 0) (k : Int) : Calls Tryz.prog 158 #[.pointer (some ⟨b, 0, none⟩), .int .i64 k] w fun e w' => e = .returned (.tuple #[.string (rdS S k), .int .i64 (rcE S k)]) ∧ Md w w' b bn bl rv (rd S k) := by
  by_cases hE : rcE S k = 0
  · have e1 : rdS S k = S.now.getD k.toNat noS := if_pos hE
    have e2 : rd S k = ⟨S.now, S.las, S.row, S.dead, up S.c 0⟩ := if_pos hE
    obtain ⟨_, h0, h1⟩ := rc_ok hE
    rw [e1, e2]
    obtain ⟨i, rfl⟩ : ∃ i : Nat, k = (i : Int) := ⟨k.toNat, by omega⟩
    have hi : i < S.now.length := by rw [h.fine.nn]; omega
    have hn2 := h.fine.n2
    rw [Int.toNat_natCast]
    obtain ⟨s, hs⟩ : ∃ s, s = S.now.getD i noS := ⟨_, rfl⟩
    rw [← hs]
    have HS : Hid (s = S.now.getD i noS) := hs
    have HE : Hid (rcE S (i : Int) = 0) := hE
    clear hs hE e1 e2
    go_enter_defers Tryz.func158, Tryz.ntmps158
    go_wp2_with fail
    refine (rlock_any h).mono ?_
    rintro e w1 ⟨rfl, h1', k1⟩
    go_wp2_with fail
    refine (reach_any h1' _).mono ?_
    rintro e w2 ⟨rfl, k2⟩
    rw [HE.out]
    have h2 := h1'.kp k2
    go_wp2_with fail
    refine (count_any h2 0 (by omega)).mono ?_
    rintro e w3 ⟨⟨v, rfl⟩, h3, k3⟩
    have cN := h3.cN
    have cv := text_at h3.sn i hi 64
    rw [← HS.out] at cv
    have hlen : (i : Int) < (S.las.length : Int) := h1
    go_wp2_with fail
    refine leaves_cons (f := 184) (args := #[.pointer (some ⟨b, 4, none⟩)]) (by simp) (by simp [go_sem]) ?_
    refine (runlock_any h3 .returning).mono ?_
    rintro e u' w4 ⟨rfl, rfl, h4, k4⟩
    refine ⟨_, results_tmp2 rfl _ _ _, ?_, Md.same h4 (((k1.trans (k2.sp _)).trans k3).trans k4).b⟩
    rw [HE.out]
    rfl
  · have e1 : rdS S k = ByteArray.empty := if_neg hE
    have e2 : rd S k = S := if_neg hE
    rw [e1, e2]
    have hr := fun w1 (h1 : MemIn w1 b bn bl rv S 0 1) => reach_any h1 k
    obtain ⟨E, hEE⟩ : ∃ E, E = rcE S k := ⟨_, rfl⟩
    rw [← hEE] at hE hr ⊢
    have hE2 : (E == 0) = false := by simpa using hE
    clear hEE hE e1 e2
    go_enter_defers Tryz.func158, Tryz.ntmps158
    go_wp2_with fail
    refine (rlock_any h).mono ?_
    rintro e w1 ⟨rfl, h1', k1⟩
    go_wp2_with fail
    refine (hr _ h1').mono ?_
    rintro e w2 ⟨rfl, k2⟩
    have h2 := h1'.kp k2
    go_wp2_with fail
    refine leaves_cons (f := 184) (args := #[.pointer (some ⟨b, 4, none⟩)]) (by simp) (by simp [go_sem]) ?_
    refine (runlock_any h2 .returning).mono ?_
    rintro e u' w4 ⟨rfl, rfl, h4, k4⟩
    exact ⟨_, results_tmp2 rfl _ _ _, rfl, Md.same h4 ((k1.trans (k2.sp _)).trans k4).b⟩

end Go.Proofs.YtonooelffokfkaaGreatDoor

namespace Go.Proofs.YtonooelffokfkaaGreatDoor
open Go.RowKit

/-- no guard; each waits for earlier ones alone; for each one a later one waits, or the last one. -/
def tailC (l : List Oper) (o : Oper) : Bool :=
  l.all (fun x => x.guard.isNone) && o.guard.isNone &&
  (List.range l.length).all (fun j => match l[j]? with | some x => x.after.all fun e => decide (e.on < j) | none => true) &&
  o.after.all (fun e => decide (e.on < l.length)) &&
  (List.range l.length).all (fun j => (o.after.any fun e => Region.binds .any e && e.on == j) || (List.range l.length).any fun i => decide (j < i) && match l[i]? with | some x => (x.after.any fun e => Region.binds .any e && e.on == j) | none => false)
/-- what has come up had what it waits for come up. -/
def Shut (l : List Oper) (L : Array Bool) : Prop := ∀ (j : Nat) (x : Oper), l[j]? = some x → L.getD j false = true → ∀ e ∈ x.after, Region.binds .any e = true → L.getD e.on false = true
theorem any_tailc {P : Program} {l : List Oper} {o : Oper} {C : World → Prop} {Q : Exit → Act → World → Prop} {Qa : Act → Prop} (hB : tailC l o = true)
    (hQ : ∀ a w, C w → Qa a → wpOp P (l ++ [o]).toArray Q l.length (fun a w => Q .normal a w) a w) :
    ∀ (f : Nat) (L : Array Bool) (a : Act) (w : World), C w → L.size = l.length → left L = f → Shut l L → wpAnyQ P .any l.toArray C Qa f L a → wpAny P .any (l ++ [o]).toArray Q (f + 1) (L.push false) a w := by
  unfold tailC at hB
  simp only [Bool.and_eq_true, List.all_eq_true, List.mem_range] at hB
  obtain ⟨⟨⟨⟨hg, hgo⟩, hbk⟩, hbo⟩, hwt⟩ := hB
  have hat : ∀ j, j < l.length → (l ++ [o]).toArray[j]? = l[j]? := fun j hj => by simp [List.getElem?_append_left hj]
  have hlast : (l ++ [o]).toArray[l.length]? = some o := by simp
  have hbk2 : ∀ (j : Nat) (x : Oper), l[j]? = some x → ∀ e ∈ x.after, e.on < j := fun j x hx e he => by
    have hj : j < l.length := (List.getElem?_eq_some_iff.1 hx).1
    have := hbk j hj
    rw [hx] at this
    exact of_decide_eq_true (Array.all_eq_true_iff_forall_mem.1 this e he)
  have hbo2 : ∀ e ∈ o.after, e.on < l.length := fun e he => of_decide_eq_true (Array.all_eq_true_iff_forall_mem.1 hbo e he)
  intro f
  induction f with
  | zero =>
    intro L a w hw hL hf hcl h
    have hall : ∀ i, i < l.length → ∀ b, L.getD i b = true := fun i hi b => left_zero hf i (by omega) b
    have hr : l.length ∈ Region.ready .any (l ++ [o]).toArray (L.push false) := by
      rw [mem_ready]
      refine ⟨by rw [← hL]; exact push_last L true, o, hlast, fun e he _ => ?_⟩
      have := hbo2 e he
      rw [push_head L false e.on (by omega)]
      exact hall _ this _
    refine ⟨fun h0 => (by rw [h0] at hr; cases hr), fun i hi => ?_⟩
    obtain rfl : i = l.length := by
      have h1 := (mem_ready.1 hi).1
      rcases Nat.lt_trichotomy i l.length with h2 | h2 | h2
      · rw [push_head L true i (by omega), hall i h2] at h1; cases h1
      · exact h2
      · rw [push_over L i (by omega)] at h1; cases h1
    refine wpOp_mono (fun a w h2 => ⟨?_, h2⟩) (hQ a w hw h.2)
    apply List.eq_nil_iff_forall_not_mem.2
    intro j hj
    have h1 := (mem_ready.1 hj).1
    rw [Array.getD_eq_getD_getElem?, Array.getElem?_setIfInBounds, Array.size_push] at h1
    rcases Nat.lt_trichotomy j l.length with h2 | h2 | h2
    · rw [if_neg (by omega), ← Array.getD_eq_getD_getElem?, push_head L true j (by omega), hall j h2] at h1; cases h1
    · rw [if_pos h2.symm, if_pos (by omega)] at h1; cases h1
    · rw [if_neg (by omega), ← Array.getD_eq_getD_getElem?, push_over L j (by omega)] at h1; cases h1
  | succ f ih =>
    intro L a w hw hL hf hcl h
    obtain ⟨m, hm, hm1, hm2⟩ := left_pos (L := L) (by omega)
    have hml : m < l.length := by omega
    have hr : m ∈ Region.ready .any (l ++ [o]).toArray (L.push false) := by
      rw [mem_ready]
      refine ⟨by rw [push_head L true m hm]; exact hm1, l[m], by rw [hat m hml]; exact List.getElem?_eq_getElem hml, fun e he _ => ?_⟩
      have := hbk2 m _ (List.getElem?_eq_getElem hml) e he
      rw [push_head L false e.on (by omega)]
      exact hm2 _ this
    refine ⟨fun h0 => (by rw [h0] at hr; cases hr), fun i hi => ?_⟩
    obtain ⟨h1, x, hx, hall⟩ := mem_ready.1 hi
    have hil : i < l.length := by
      rcases Nat.lt_trichotomy i l.length with h2 | h2 | h2
      · exact h2
      · subst h2
        rw [hlast] at hx
        obtain rfl := Option.some.inj hx
        have hdone : ∀ d j, j < l.length → l.length - j ≤ d → L.getD j false = true := by
          intro d
          induction d with
          | zero => intro j hj h0; omega
          | succ d ihd =>
            intro j hj hd
            have hw2 := hwt j hj
            rw [Bool.or_eq_true] at hw2
            rcases hw2 with hw2 | hw2
            · obtain ⟨e, he, hb⟩ := Array.any_eq_true'.1 hw2
              simp only [Bool.and_eq_true, beq_iff_eq] at hb
              have h3 := hall e he hb.1
              rw [hb.2, push_head L false j (by omega)] at h3
              exact h3
            · obtain ⟨i2, hi2, hb⟩ := List.any_eq_true.1 hw2
              rw [Bool.and_eq_true, decide_eq_true_eq] at hb
              have hi3 : i2 < l.length := List.mem_range.1 hi2
              rw [List.getElem?_eq_getElem hi3] at hb
              obtain ⟨e, he, hb2⟩ := Array.any_eq_true'.1 hb.2
              simp only [Bool.and_eq_true, beq_iff_eq] at hb2
              have h3 := hcl i2 _ (List.getElem?_eq_getElem hi3) (ihd i2 hi3 (by omega)) e he hb2.1
              rw [hb2.2] at h3
              exact h3
        have h3 := hdone l.length m hml (by omega)
        rw [Array.getD_eq_getD_getElem?, Array.getElem?_eq_getElem hm] at h3 hm1
        simp at h3 hm1
        rw [h3] at hm1; cases hm1
      · rw [push_over L i (by omega)] at h1; cases h1
    rw [hat i hil] at hx
    rw [push_head L true i (by omega)] at h1
    have hri : i ∈ Region.ready .any l.toArray L := by
      rw [mem_ready]
      refine ⟨h1, x, by simpa using hx, fun e he hb => ?_⟩
      have h3 := hall e he hb
      have := hbk2 i x hx e he
      rw [push_head L false e.on (by omega)] at h3
      exact h3
    have hcl2 : Shut l (L.setIfInBounds i true) := fun j y hy hj e he hb => by
      have hold : L.getD e.on false = true → (L.setIfInBounds i true).getD e.on false = true := fun h3 => by
        rw [Array.getD_eq_getD_getElem?, Array.getElem?_setIfInBounds]
        split
        · split <;> simp_all
        · rw [← Array.getD_eq_getD_getElem?]; exact h3
      by_cases hji : j = i
      · subst hji
        rw [hx] at hy
        obtain rfl := Option.some.inj hy
        have h3 := hall e he hb
        have := hbk2 j x hx e he
        rw [push_head L false e.on (by omega)] at h3
        exact hold h3
      · refine hold (hcl j y hy ?_ e he hb)
        rw [Array.getD_eq_getD_getElem?, Array.getElem?_setIfInBounds, if_neg (fun e => hji e.symm), ← Array.getD_eq_getD_getElem?] at hj
        exact hj
    have hq := h.2 i hri
    unfold qOp at hq
    unfold wpOp
    rw [show l.toArray[i]? = some x by simpa using hx] at hq
    rw [show (l ++ [o]).toArray[i]? = some x by rw [hat i hil]; exact hx]
    have hgx : x.guard.isNone = true := hg x (List.mem_of_getElem? hx)
    simp only [wanted_none hgx, if_true] at hq ⊢
    refine .inl (Oper.wp_of_quiet hw (fun a' w' hw' hK => ?_) hq)
    rw [push_set L i (by omega)]
    exact ih _ a' w' hw' (by rw [Array.size_setIfInBounds]; exact hL) (by have := left_set (L := L) (i := i) (by omega) h1; omega) hcl2 hK

/-- the region's law. -/
theorem wp_region_tailc {P : Program} {id : Nat} {Q : Exit → Act → World → Prop} {a : Act} {w : World} (l : List Oper) (o : Oper) (ops : Array Oper) (hops : ops = (l ++ [o]).toArray) (hm : P.follows .mixedOrders = true) (hX : Region.lexB .any l.toArray = true) (hB : tailC l o = true)
    (h : wpQuiet P l.toArray (fun w' => ∃ p, w' = kpw w p) (fun a' => ∀ w', (∃ p, w' = kpw w p) → wpOp P (l ++ [o]).toArray Q l.length (fun a w => Q .normal a w) a' w') l a) : (Code.region id ops true).wp P Q a w := by
  subst hops
  refine wp_region_any hm ?_
  simp only [Region.lexB, Bool.and_eq_true] at hX
  have H := wpAnyQ_lex (C := fun w' => ∃ p, w' = kpw w p) (md := .any) hX.1 l 0 (Array.replicate l.toArray.size false) a (by simp) (by simpa using hX.2) h
  have := any_tailc (P := P) (Q := Q) (C := fun w' => ∃ p, w' = kpw w p) (Qa := fun a' => ∀ w', (∃ p, w' = kpw w p) → wpOp P (l ++ [o]).toArray Q l.length (fun a w => Q .normal a w) a' w') hB (fun a w hw h => h w hw) l.length (Array.replicate l.toArray.size false) a w.drew (kpw_of (Kp.refl w).drew) (by simp) (by unfold left; simp) (fun j x hx hj => by rw [Array.getD_eq_getD_getElem?, Array.getElem?_replicate] at hj; split at hj <;> simp at hj) (by simpa using H)
  rw [show (l ++ [o]).toArray.size = l.length + 1 by simp]
  rw [show Array.replicate (l.length + 1) false = (Array.replicate l.toArray.size false).push false by simp [Array.replicate_succ]]
  exact this

theorem wp_region_tailc2 {P : Program} {id : Nat} {Q : Exit → Act → World → Prop} {a : Act} {w : World} {l0 : List Oper} {o : Oper} (ho : l0.getLast? = some o) (hm : P.follows .mixedOrders = true) (hX : Region.lexB .any l0.dropLast.toArray = true) (hB : tailC l0.dropLast o = true)
    (h : wpQuiet P l0.dropLast.toArray (fun w' => ∃ p, w' = kpw w p) (fun a' => ∀ w', (∃ p, w' = kpw w p) → wpList P l0.toArray Q [o] a' w') l0.dropLast a) : (Code.region id l0.toArray true).wp P Q a w := by
  have e : l0 = l0.dropLast ++ [o] := by
    have hne : l0 ≠ [] := fun h => by rw [h] at ho; cases ho
    have h1 := List.dropLast_concat_getLast hne
    rw [List.getLast?_eq_some_getLast hne] at ho
    rw [Option.some.inj ho] at h1
    exact h1.symm
  refine wp_region_tailc l0.dropLast o l0.toArray (by rw [← e]) hm hX hB ?_
  rw [← e]
  have key : ∀ a' w', wpList P l0.toArray Q [o] a' w' → wpOp P l0.toArray Q l0.dropLast.length (fun a w => Q .normal a w) a' w' := fun a' w' h => by
    have h0 : l0.toArray[l0.dropLast.length]? = some o := by
      have : (l0.dropLast ++ [o])[l0.dropLast.length]? = some o := by simp
      rw [← e] at this
      simpa using this
    unfold wpOp
    simp only [h0]
    exact h
  have mono : ∀ (K K' : Act → Prop), (∀ a, K a → K' a) → ∀ (l : List Oper) (a : Act), wpQuiet P l0.dropLast.toArray (fun w' => ∃ p, w' = kpw w p) K l a → wpQuiet P l0.dropLast.toArray (fun w' => ∃ p, w' = kpw w p) K' l a := by
    intro K K' hK l
    induction l with
    | nil => exact fun a h => hK a h
    | cons x l ih =>
      intro a h
      unfold wpQuiet at h ⊢
      split
      · rename_i hw
        rw [if_pos hw] at h
        exact Oper.quiet_mono (fun a h => ih a h) h
      · rename_i hw
        rw [if_neg hw] at h
        exact ih _ h
  exact mono _ _ (fun a' h w' hw' => key a' w' (h w' hw')) _ _ h

end Go.Proofs.YtonooelffokfkaaGreatDoor

namespace Go.Proofs.YtonooelffokfkaaGreatDoor
open Go.RowKit Plain
set_option linter.unusedVariables false

theorem run_copy_str (w : World) (ty : TypeId) (g off c : Nat) (s : ByteArray) (hz : s.size = 64) (ht : w.there g off 64) :
    (Builtin.copy_ #[23, 9] ty #[.slice (some ⟨g, off, none⟩) 64 c, .string s]).run Tryz.prog w = .ok (.int .i64 64) (w.setCells g off (byteCells s)) := by
  have hst := run_storeCells_cells (P := Tryz.prog) g off (byteCells s) 0 w (fun j hj => by rw [bc_len, hz] at hj; simpa using (ht j hj).1) (fun j hj => by rw [bc_len, hz] at hj; simpa using (ht j hj).2) (bc_one s)
  have hf := firstCells_string (P := Tryz.prog) s w
  rw [hz] at hf
  simp only [Nat.add_zero] at hst
  simp [Builtin.copy_, run_underlying Tryz.underlying23, Builtin.lenOf, hz, Tryz.sizeOf5, hf, hst, goInt]
theorem wpList_copy_run {w : World} {ops : Array Oper} {rest : List Oper} {o : Oper} {a : Act} {Q : Exit → Act → World → Prop} (hgd : o.guard = none) (d s : Operand) (dT sT : TypeId)
    (ho : o.op = .call { callee := .builtin .copy, args := #[d, s], argTypes := #[dT, sT] }) (dv sv r : Value) (w' : World) (hd : a.eval d = dv) (hs : a.eval s = sv)
    (hrun : (Builtin.copy_ #[dT, sT] o.type #[dv, sv]).run Tryz.prog w = .ok r w') (h : wpList Tryz.prog ops Q rest (a.put o.dst r) w') : wpList Tryz.prog ops Q (o :: rest) a w := by
  refine wpList_plain hgd fun K hK' => ?_
  unfold Oper.wp
  simp [execOp, ho, resolve, invoke, builtin, hd, hs, hrun, Result.andThen]
  exact hK' _ _ h
/-- the cells of all sectors. -/
def scs : List ByteArray → List Value
  | [] => []
  | s :: L => byteCells s ++ scs L
theorem scs_len : ∀ L, (∀ s ∈ L, s.size = 64) → (scs L).length = L.length * 64
  | [], _ => rfl
  | s :: L, h => by
    simp only [scs, List.length_append, List.length_cons, scs_len L (fun q hq => h q (List.mem_cons_of_mem _ hq)), bc_len, h s List.mem_cons_self]
    omega
theorem scs_at : ∀ (L : List ByteArray) (i : Nat), (∀ s ∈ L, s.size = 64) → i < L.length → ∀ (j : Nat), j < 64 → (scs L)[i * 64 + j]? = (byteCells (L.getD i noS))[j]?
  | [], i, _, h, _, _ => by simp at h
  | s :: L, 0, hz, _, j, hj => by
    rw [Nat.zero_mul, Nat.zero_add]
    show (byteCells s ++ scs L)[j]? = (byteCells s)[j]?
    rw [List.getElem?_append_left (by rw [bc_len, hz s List.mem_cons_self]; exact hj)]
  | s :: L, i + 1, hz, h, j, hj => by
    have h1 := scs_at L i (fun q hq => hz q (List.mem_cons_of_mem _ hq)) (by simpa using h) j hj
    show (byteCells s ++ scs L)[(i + 1) * 64 + j]? = (byteCells (L.getD i noS))[j]?
    have hl : (byteCells s).length = 64 := by rw [bc_len, hz s List.mem_cons_self]
    rw [List.getElem?_append_right (by rw [hl]; omega), hl, show (i + 1) * 64 + j - 64 = i * 64 + j by omega]
    exact h1
theorem SecIn.all {w : World} {g : Nat} {L : List ByteArray} (h : SecIn w g L) : w.rangeAt g 0 (scs L) := fun j v hv => by
  have hj := (List.getElem?_eq_some_iff.1 hv).1
  rw [scs_len L h.z] at hj
  have e : j = j / 64 * 64 + j % 64 := by omega
  have hi : j / 64 < L.length := by omega
  rw [e, scs_at L (j / 64) h.z hi (j % 64) (by omega)] at hv
  have := h.c (j / 64) hi (j % 64) v hv
  rw [Nat.zero_add]
  rw [← e] at this
  exact this
theorem SecIn.of {w : World} {g : Nat} {L : List ByteArray} (hr : w.rangeAt g 0 (scs L)) (ht : w.there g 0 (L.length * 64)) (hz : ∀ s ∈ L, s.size = 64) : SecIn w g L :=
  ⟨fun i hi j v hv => by
    have hj := (List.getElem?_eq_some_iff.1 hv).1
    rw [bc_len, hz _ (getD_mem hi)] at hj
    have := hr (i * 64 + j) v (by rw [scs_at L i hz hi j hj]; exact hv)
    rwa [Nat.zero_add] at this, ht, hz⟩
/-- sectors overwritten whole. -/
theorem SecIn.over {w : World} {g : Nat} {L : List ByteArray} (h : SecIn w g L) (L' : List ByteArray) (hl : L'.length = L.length) (hz : ∀ s ∈ L', s.size = 64) : SecIn (w.setCells g 0 (scs L')) g L' :=
  SecIn.of (World.rangeAt_setCells_same w g 0 _ (by rw [scs_len L' hz, hl]; exact h.t)) (by rw [hl]; exact World.there_setCells h.t g 0 _) hz

/-! ### a write in a block of its own -/
structure Vr (w : World) (k : Nat) (p : Nat × ByteArray) : Prop where
  r : w.rangeAt k 0 (wc p)
  t : w.there k 0 65
  z : p.2.size = 64
  hk : k < w.heap.size
theorem Vr.at {w : World} {k : Nat} {p : Nat × ByteArray} (h : Vr w k p) : w.cell? ⟨k, 0, none⟩ = some (.int .i64 (p.1 : Int)) := h.r 0 _ rfl
theorem Vr.bytes {w : World} {k : Nat} {p : Nat × ByteArray} (h : Vr w k p) : w.rangeAt k 1 (byteCells p.2) := fun j v hv => by
  have := h.r (j + 1) v (by simpa [wc] using hv)
  rw [show 1 + j = 0 + (j + 1) by omega]
  exact this
theorem Vr.load {w : World} {k : Nat} {p : Nat × ByteArray} (h : Vr w k p) : (Instr.loadAt 165 (.pointer (some ⟨k, 0, none⟩))).run Tryz.prog w = .ok (.agg (wc p).toArray) w :=
  run_loadAt_mid w k 0 165 (wc p) _ h.r Tryz.underlying165 rfl (by rw [wc_len, h.z]; kernel_rfl)
theorem Vr.sp {w w' : World} {k : Nat} {p : Nat × ByteArray} (h : Vr w k p) {T : List Nat} (q : Sp T w w') (hk : k ∉ T) : Vr w' k p := ⟨q.range h.r hk, q.there h.t hk, h.z, Nat.lt_of_lt_of_le h.hk q.size⟩
theorem zero_len : Tryz.zeroCells165.size = 65 := by kernel_rfl
theorem there_new (w : World) (cs : Array Value) (t : TypeId) (n : Nat) (hn : n = cs.size) : (w.alloc (.cells cs t)).there w.heap.size 0 n := fun j hj => by
  rw [World.cell?_alloc_at _ _ _ _ rfl, World.frozen?_alloc_at _ _ _ _ rfl, Nat.zero_add, Array.getElem?_eq_getElem (by omega)]
  exact ⟨rfl, rfl⟩
/-- a write loaded. -/
theorem wpList_load_w {w : World} {ops : Array Oper} {rest : List Oper} {o : Oper} {a : Act} {Q : Exit → Act → World → Prop} (hgd : o.guard = none) (x : Operand) (ho : o.op = .load 165 x)
    (g off : Nat) (hx : a.eval x = .pointer (some ⟨g, off, none⟩)) (p : Nat × ByteArray) (hz : p.2.size = 64) (hr : w.rangeAt g off (wc p))
    (h : wpList Tryz.prog ops Q rest (a.put o.dst (.agg (wc p).toArray)) w) : wpList Tryz.prog ops Q (o :: rest) a w :=
  wpList_load_mid hgd 165 x ho g off hx (wc p) _ hr Tryz.underlying165 rfl (by rw [wc_len, hz]; kernel_rfl) h
/-- a write stored into a block just made. -/
theorem wpList_store_new {w0 : World} {ops : Array Oper} {rest : List Oper} {o : Oper} {a : Act} {Q : Exit → Act → World → Prop} (hgd : o.guard = none) (x y : Operand) (ho : o.op = .store 165 x y)
    (p : Nat × ByteArray) (hz : p.2.size = 64) (k : Nat) (hk : k = w0.heap.size) (hx : a.eval x = .pointer (some ⟨k, 0, none⟩)) (hy : a.eval y = .agg (wc p).toArray)
    (h : ∀ w', Kp w0 w' → Vr w' k p → k < w'.heap.size → wpList Tryz.prog ops Q rest (a.put o.dst undef) w') : wpList Tryz.prog ops Q (o :: rest) a (w0.alloc (.cells Tryz.zeroCells165 165)) := by
  subst hk
  have ht := there_new w0 Tryz.zeroCells165 165 65 zero_len.symm
  have hlen : (wc p).length = 65 := by rw [wc_len, hz]
  refine wpList_store_mid hgd 165 x y ho w0.heap.size 0 (wc p).toArray hx hy (by simpa [hlen] using ht) (by simp only [List.size_toArray, hlen]; kernel_rfl) (all_oneCell_toArray (wc_one p)) ?_
  have K := Sp.setCells (T := [w0.heap.size]) w0.heap.size (by simp) (wc p) 0 _ (Sp.refl _ (w0.alloc (.cells Tryz.zeroCells165 165)))
  refine h _ (Sp.kp ((Kp.refl w0).alloc _) K (by simp)) ⟨World.rangeAt_setCells_same _ _ _ _ (by rw [hlen]; exact ht), World.there_setCells ht _ _ _, hz, Nat.lt_of_lt_of_le (by simp) K.size⟩ (Nat.lt_of_lt_of_le (by simp) K.size)

end Go.Proofs.YtonooelffokfkaaGreatDoor

namespace Go.Proofs.YtonooelffokfkaaGreatDoor
open Go.RowKit Plain
set_option linter.unusedVariables false


end Go.Proofs.YtonooelffokfkaaGreatDoor

namespace Go.Proofs.YtonooelffokfkaaGreatDoor
open Go.RowKit Plain
set_option linter.unusedVariables false

def z0 : Value := .int .u8 0
theorem bc_zero : byteCells z64 = List.replicate 64 z0 := by kernel_rfl
theorem scs_zero : ∀ n, scs (List.replicate n z64) = List.replicate (n * 64) z0
  | 0 => rfl
  | n + 1 => by
    rw [List.replicate_succ]
    simp only [scs, scs_zero n, bc_zero]
    rw [List.replicate_append_replicate, show 64 + n * 64 = (n + 1) * 64 by omega]
theorem made_rep (m n : Nat) (hm : 0 < m) (z : Value) : madeCells (List.replicate m z).toArray n = (List.replicate n z).toArray := by
  apply Array.ext_getElem?
  intro j
  unfold madeCells
  have h64 : j % m < m := Nat.mod_lt _ hm
  by_cases hj : j < n
  · simp [hj, h64]
  · simp [hj]
theorem made_zero (n : Nat) : madeCells (List.replicate 64 z0).toArray (n * 64) = (scs (List.replicate n z64)).toArray := by
  rw [scs_zero]
  exact made_rep 64 (n * 64) (by omega) z0
theorem info64 : (Tryz.prog.info? 163).map (fun i => (i.zero, i.size, i.bytes)) = some (some (.agg (List.replicate 64 z0).toArray), 64, 64) := by kernel_rfl
theorem run_make64 (n : Nat) (hn : n ≤ 256) (w : World) : (Instr.makeSlice 153 (.int .i64 (n : Int)) (.int .i64 (n : Int))).run Tryz.prog w = .ok (.slice (some ⟨w.heap.size, 0, none⟩) n n) (w.alloc (.cells (scs (List.replicate n z64)).toArray 163)) := by
  obtain ⟨i, hi, hzz⟩ := Option.map_eq_some_iff.1 info64
  simp only [Prod.mk.injEq] at hzz
  obtain ⟨hz, hs, hb⟩ := hzz
  have hr := run_make (P := Tryz.prog) w 153 163 i _ Tryz.underlying153 hi hz .i64 .i64 n n (by omega) (Int.le_refl _) (by rw [hb]; omega) (by omega)
  simp only [Int.toNat_natCast, hs, Value.cells, made_zero] at hr
  exact hr
theorem SecIn.made (w : World) (n : Nat) (t : TypeId) : SecIn (w.alloc (.cells (scs (List.replicate n z64)).toArray t)) w.heap.size (List.replicate n z64) := by
  refine SecIn.of (fun j v hv => ?_) ?_ (rep_all n)
  · rw [World.cell?_alloc_at _ _ _ _ rfl, Nat.zero_add]
    simpa using hv
  · exact there_new w _ t _ (by rw [List.size_toArray, scs_len _ (rep_all n)])
def mc (x1 x2 N : Nat) : Array Value := #[.int .i64 0, .int .i64 0, .int .i64 0, .int .i64 0, .int .i32 0, .int .u32 0, .int .u32 0, .int .u32 0, .int .i32 0, .int .i32 0, .slice (some ⟨x1, 0, none⟩) N N, .slice (some ⟨x2, 0, none⟩) N N, .slice none 0 0, .bool false]
theorem MemIn.made (w : World) (N : Nat) (h1 : 1 ≤ N) (h2 : N ≤ 256) (Z : Array Value) (hZ : ∀ W : World, SecIn (W.alloc (.cells Z 163)) W.heap.size (List.replicate N z64)) (x1 x2 : Nat) (hx : (x1 = w.heap.size ∧ x2 = w.heap.size + 1) ∨ (x1 = w.heap.size + 1 ∧ x2 = w.heap.size)) :
    MemIn (((w.alloc (.cells Z 163)).alloc (.cells Z 163)).alloc (.cells (mc x1 x2 N) 156)).drew (w.heap.size + 1 + 1) x1 x2 (.slice none 0 0) (nw N) 0 0 := by
  obtain ⟨W, hW⟩ : ∃ W, W = (w.alloc (.cells Z 163)).alloc (.cells Z 163) := ⟨_, rfl⟩
  have hs : W.heap.size = w.heap.size + 1 + 1 := by rw [hW]; simp
  have s1 : SecIn W w.heap.size (List.replicate N z64) := by rw [hW]; exact (hZ w).sp (((Kp.refl _).alloc _).sp []) (by simp)
  have s2 : SecIn W (w.heap.size + 1) (List.replicate N z64) := by
    have := hZ (w.alloc (.cells Z 163))
    rw [← hW] at this
    simpa using this
  rw [← hW, ← hs]
  have hc : ∀ i, i < 14 → (W.alloc (.cells (mc x1 x2 N) 156)).drew.cell? ⟨W.heap.size, i, none⟩ = (mc x1 x2 N)[i]? := fun i _ => World.cell?_alloc_at _ _ _ i rfl
  have hk : Kp W (W.alloc (.cells (mc x1 x2 N) 156)).drew := ((Kp.refl W).alloc _).drew
  have hl : (nw N).las.length = N := by simp [nw]
  have sn : SecIn (W.alloc (.cells (mc x1 x2 N) 156)).drew x1 (List.replicate N z64) := by
    rcases hx with ⟨rfl, _⟩ | ⟨rfl, _⟩
    · exact s1.sp (hk.sp []) (by simp)
    · exact s2.sp (hk.sp []) (by simp)
  have sl : SecIn (W.alloc (.cells (mc x1 x2 N) 156)).drew x2 (List.replicate N z64) := by
    rcases hx with ⟨_, rfl⟩ | ⟨_, rfl⟩
    · exact s2.sp (hk.sp []) (by simp)
    · exact s1.sp (hk.sp []) (by simp)
  refine ⟨by show W.heap.size < (W.alloc _).heap.size; simp, fun j hj => ?_, hc 4 (by omega), hc 6 (by omega), hc 7 (by omega), hc 8 (by omega), by rw [hl]; exact hc 10 (by omega), by rw [hl]; exact hc 11 (by omega), hc 12 (by omega), hc 13 (by omega), fun o => World.frozen?_alloc_at _ _ _ o rfl, sn, sl, RowIn.nil _, by omega, by omega, by omega, fun g hg => (by cases hg), Fine.nw N h1 h2⟩
  rw [hc j (by omega)]
  have : j = 0 ∨ j = 1 ∨ j = 2 ∨ j = 3 := by omega
  rcases this with rfl | rfl | rfl | rfl <;> rfl
set_option maxRecDepth 100000 in
set_option maxHeartbeats 1000000 in
theorem new_any (k : Int) (w : World) : Calls Tryz.prog 89 #[.int .i64 k] w fun e w' => ∃ b bn bl, e = .returned (.pointer (some ⟨b, 0, none⟩)) ∧ MemIn w' b bn bl (.slice none 0 0) (nw (nwN k)) 0 0 ∧ Kp w w' ∧ w.heap.size ≤ b ∧ w.heap.size ≤ bn ∧ w.heap.size ≤ bl := by
  have hmin := @imin Tryz.prog
  have hmax := @imax Tryz.prog
  obtain ⟨N, hN⟩ : ∃ N, N = nwN k := ⟨_, rfl⟩
  have e1 : min (max k 1) 256 = (N : Int) := by rw [hN]; unfold nwN; omega
  have e2 : 1 ≤ N := by omega
  have e3 : N ≤ 256 := by omega
  rw [← hN]
  clear hN
  have hmk := run_make64 N e3
  obtain ⟨Z, hZ⟩ : ∃ Z, Z = (scs (List.replicate N z64)).toArray := ⟨_, rfl⟩
  rw [← hZ] at hmk
  have HZ : Hid (∀ W : World, SecIn (W.alloc (.cells Z 163)) W.heap.size (List.replicate N z64)) := fun W => by rw [hZ]; exact SecIn.made W N _
  clear hZ
  go_enter Tryz.func89, Tryz.ntmps89
  go_wp2_with fail
  go_region
  · have hM := MemIn.made w N e2 e3 Z HZ.out w.heap.size (w.heap.size + 1) (.inl ⟨rfl, rfl⟩)
    unfold mc at hM
    have hK := ((((Kp.refl w).alloc (.cells Z 163)).alloc (.cells Z 163)).alloc (.cells (mc w.heap.size (w.heap.size + 1) N) 156)).drew
    clear hmk e1
    go_wp2
    go_ret
    exact ⟨_, _, _, rfl, hM, hK, by omega, by omega, by omega⟩
  · have hM := MemIn.made w N e2 e3 Z HZ.out (w.heap.size + 1) w.heap.size (.inr ⟨rfl, rfl⟩)
    unfold mc at hM
    have hK := ((((Kp.refl w).alloc (.cells Z 163)).alloc (.cells Z 163)).alloc (.cells (mc (w.heap.size + 1) w.heap.size N) 156)).drew
    clear hmk e1
    go_wp2
    go_ret
    exact ⟨_, _, _, rfl, hM, hK, by omega, by omega, by omega⟩

end Go.Proofs.YtonooelffokfkaaGreatDoor

namespace Go.Proofs.YtonooelffokfkaaGreatDoor
open Go.RowKit Plain
set_option linter.unusedVariables false



end Go.Proofs.YtonooelffokfkaaGreatDoor

namespace Go.Proofs.YtonooelffokfkaaGreatDoor
open Go.RowKit Plain
set_option linter.unusedVariables false

section
variable {P : Program} {ops : Array Oper} {Q : Exit → Act → World → Prop} {md : Region.Mode} {S : World → Prop}
end
theorem info99 : (Tryz.prog.info? 165).map (fun i => (i.zero, i.size, i.bytes)) = some (some (.agg Tryz.zeroCells165), 65, 72) := by kernel_rfl
theorem run_build_w (p : Nat × ByteArray) (hz : p.2.size = 64) (w : World) : (Instr.buildSlice 154 1 #[(0, .agg (wc p).toArray)]).run Tryz.prog w = .ok (.slice (some ⟨w.heap.size, 0, none⟩) 1 1) (w.alloc (.cells (wc p).toArray 165)) := by
  have hl : (wc p).toArray.size = 65 := by rw [List.size_toArray, wc_len, hz]
  obtain ⟨i, hi, hzz⟩ := Option.map_eq_some_iff.1 info99
  simp only [Prod.mk.injEq] at hzz
  obtain ⟨hz0, hs, hby⟩ := hzz
  refine run_buildSlice (P := Tryz.prog) w 154 165 1 _ (wc p).toArray i _ Tryz.underlying154 hi hz0 (by rw [hs]; omega) (by rw [hs]; omega) ?_
  rw [hs]
  have := Go.Great.fill_whole (s := 65) (by omega) [.agg (wc p).toArray] ((Array.range (1 * 65)).map ((Value.agg Tryz.zeroCells165).cells[· % (Value.agg Tryz.zeroCells165).cells.size]!)) (fun v hv => by rw [List.mem_singleton.1 hv]; exact hl) (by simp)
  simpa [Value.cells] using this
theorem wp_buildW {o : Oper} {a : Act} {w : World} {K : Act → World → Prop} {Q : Exit → Act → World → Prop} (x : Operand) (ho : o.op = .buildSlice 154 1 #[(0, x)]) (p : Nat × ByteArray) (hz : p.2.size = 64) (hx : a.eval x = .agg (wc p).toArray)
    (h : ∀ N w', Kp w w' → w'.rangeAt N 0 (wc p) → w.heap.size ≤ N → K (a.put o.dst (.slice (some ⟨N, 0, none⟩) 1 1)) w') : Oper.wp Tryz.prog o a w K Q := by
  have hr := run_build_w p hz w
  have hK := h w.heap.size (w.alloc (.cells (wc p).toArray 165)) ((Kp.refl w).alloc _) (fun j v hv => by rw [World.cell?_alloc_at _ _ _ _ rfl, Nat.zero_add]; simpa using hv) (Nat.le_refl _)
  unfold Oper.wp execOp
  simp only [ho]
  simp [hx, hr]
  exact hK
theorem RowIn.one {w : World} {v : Value} {r : List (Nat × ByteArray)} (h : RowIn w v r) : v.oneCell' = true := by
  obtain ⟨a, cap, rfl, _⟩ := h.len
  rfl

end Go.Proofs.YtonooelffokfkaaGreatDoor

namespace Go.Proofs.YtonooelffokfkaaGreatDoor
open Go.RowKit Plain
set_option linter.unusedVariables false



end Go.Proofs.YtonooelffokfkaaGreatDoor

namespace Go.Proofs.YtonooelffokfkaaGreatDoor
open Go.RowKit Plain
set_option linter.unusedVariables false


end Go.Proofs.YtonooelffokfkaaGreatDoor

namespace Go.Proofs.YtonooelffokfkaaGreatDoor
open Go.RowKit Plain
set_option linter.unusedVariables false

theorem heap_setCells (g : Nat) : ∀ (vs : List Value) (o : Nat) (w : World) (cur : Array Value) (t : TypeId) (fr : Nat × Nat), w.heap[g]? = some (.cells cur t fr) → ∃ cur', (w.setCells g o vs).heap[g]? = some (.cells cur' t fr) ∧ cur'.size = cur.size
  | [], _, _, cur, _, _, h => ⟨cur, h, rfl⟩
  | v :: r, o, w, cur, t, fr, h => by
    rw [World.setCells]
    have h1 : (w.setCell ⟨g, o, none⟩ v).heap[g]? = some (.cells (cur.setIfInBounds o v) t fr) := by
      rw [setCell_eq_setRow w g o cur t fr v h]
      exact setRow_heap w g cur _ t _ h
    obtain ⟨c, h2, h3⟩ := heap_setCells g r (o + 1) _ _ t fr h1
    exact ⟨c, h2, by rw [h3]; simp⟩
/-- the row under way: those kept lie in front; those from k on lie where they lay. -/
structure Tk (w : World) (g cap k : Nat) (row kept : List (Nat × ByteArray)) : Prop where
  h : ∃ cur, w.heap[g]? = some (.cells cur 165 (0, 0)) ∧ cur.size = cap * 65
  c1 : ∀ i, i < kept.length → w.rangeAt g (i * 65) (wc (kept.getD i (0, noS)))
  c2 : ∀ i, k ≤ i → i < row.length → w.rangeAt g (i * 65) (wc (row.getD i (0, noS)))
  z1 : ∀ p ∈ kept, p.2.size = 64
  z2 : ∀ p ∈ row, p.2.size = 64
theorem Tk.sp {w w' : World} {g cap k : Nat} {row kept : List (Nat × ByteArray)} (h : Tk w g cap k row kept) {T : List Nat} (q : Sp T w w') (hg : g ∉ T) : Tk w' g cap k row kept := by
  obtain ⟨cur, h1, h2⟩ := h.h
  exact ⟨⟨cur, (q.block g (Array.getElem?_eq_some_iff.1 h1).1 hg).trans h1, h2⟩, fun i hi => q.range (h.c1 i hi) hg, fun i h1 h2 => q.range (h.c2 i h1 h2) hg, h.z1, h.z2⟩
theorem Tk.there {w : World} {g cap k : Nat} {row kept : List (Nat × ByteArray)} (h : Tk w g cap k row kept) : w.there g 0 (cap * 65) := fun j hj => by
  obtain ⟨cur, h1, h2⟩ := h.h
  have hj2 : j < cur.size := by omega
  simp [World.cell?, World.frozen?, h1, hj2]
theorem Tk.skip {w : World} {g cap k : Nat} {row kept : List (Nat × ByteArray)} (h : Tk w g cap k row kept) : Tk w g cap (k + 1) row kept := ⟨h.h, h.c1, fun i h1 h2 => h.c2 i (by omega) h2, h.z1, h.z2⟩
theorem getD_app {l : List (Nat × ByteArray)} {p : Nat × ByteArray} (i : Nat) (h : i < l.length) : (l ++ [p]).getD i (0, noS) = l.getD i (0, noS) := by
  rw [List.getD_eq_getElem?_getD, List.getElem?_append_left h, ← List.getD_eq_getElem?_getD]
theorem getD_last {l : List (Nat × ByteArray)} {p : Nat × ByteArray} : (l ++ [p]).getD l.length (0, noS) = p := by
  rw [List.getD_eq_getElem?_getD, List.getElem?_append_right (Nat.le_refl _)]; simp
theorem Tk.put {w : World} {g cap k : Nat} {row kept : List (Nat × ByteArray)} (h : Tk w g cap k row kept) (p : Nat × ByteArray) (hp : p.2.size = 64) (hm : kept.length ≤ k) (hk : k < row.length) (hc : row.length ≤ cap) : Tk (w.setCells g (kept.length * 65) (wc p)) g cap (k + 1) row (kept ++ [p]) := by
  have hl : (wc p).length = 65 := by rw [wc_len, hp]
  refine ⟨?_, fun i hi => ?_, fun i h1 h2 => ?_, fun q hq => ?_, h.z2⟩
  · obtain ⟨cur, h1, h2⟩ := h.h
    obtain ⟨c, h3, h4⟩ := heap_setCells g (wc p) (kept.length * 65) w cur _ _ h1
    exact ⟨c, h3, by rw [h4, h2]⟩
  · rw [List.length_append, List.length_singleton] at hi
    by_cases e : i < kept.length
    · rw [getD_app i e]
      have hz := h.z1 (kept.getD i (0, noS)) (by rw [List.getD_eq_getElem?_getD, List.getElem?_eq_getElem e]; exact List.getElem_mem e)
      exact World.rangeAt_setCells_apart (h.c1 i e) g _ _ (.inr (.inl (by rw [wc_len, hz]; omega)))
    · obtain rfl : i = kept.length := by omega
      rw [getD_last]
      exact World.rangeAt_setCells_same w g _ _ (fun j hj => by
        have := h.there (kept.length * 65 + j) (by rw [hl] at hj; have : kept.length + 1 ≤ cap := by omega
                                                   have := Nat.mul_le_mul_right 65 this
                                                   omega)
        rwa [Nat.zero_add] at this)
  · exact World.rangeAt_setCells_apart (h.c2 i (by omega) h2) g _ _ (.inr (.inr (by rw [hl]; omega)))
  · rcases List.mem_append.1 hq with hq | hq
    · exact h.z1 q hq
    · rw [List.mem_singleton.1 hq]; exact hp
theorem tk_of {w : World} {g cap : Nat} {row : List (Nat × ByteArray)} (h : RowIn w (.slice (some ⟨g, 0, none⟩) row.length cap) row) : Tk w g cap 0 row [] := by
  rcases h.o.2 with ⟨h1, _⟩ | ⟨g', cap', cur, h1, _, hg, hn, hm, hcs, htake⟩
  · cases h1
  · simp only [Value.slice.injEq, Option.some.injEq, Addr.mk.injEq, and_true, true_and] at h1
    obtain ⟨rfl, rfl⟩ := h1
    refine ⟨⟨cur, hg, hcs⟩, fun i hi => absurd hi (by simp), fun i _ hi => ?_, fun p hp => (by cases hp), h.z⟩
    obtain ⟨g2, cap2, hv, _, _, _, hr⟩ := h.some (by omega)
    simp only [Value.slice.injEq, Option.some.injEq, Addr.mk.injEq, and_true, true_and] at hv
    obtain ⟨rfl, rfl⟩ := hv
    exact hr i hi
theorem Tk.row {w : World} {g cap k : Nat} {row kept : List (Nat × ByteArray)} (h : Tk w g cap k row kept) (hm : kept.length ≤ cap) (hc : cap ≤ maxLen) : RowIn w (.slice (some ⟨g, 0, none⟩) kept.length cap) kept := by
  obtain ⟨cur, h1, h2⟩ := h.h
  have hl := wcs_len kept h.z1
  refine ⟨⟨hl, .inr ⟨g, cap, cur, rfl, Nat.zero_le _, h1, hm, hc, h2, ?_⟩⟩, h.z1⟩
  have hsz : kept.length * 65 ≤ cur.size := by rw [h2]; exact Nat.mul_le_mul_right 65 hm
  apply List.ext_getElem?
  intro j
  by_cases hj : j < kept.length * 65
  · rw [List.getElem?_take_of_lt hj]
    have hi : j / 65 < kept.length := by omega
    have e : j = j / 65 * 65 + j % 65 := by omega
    have hz := h.z1 (kept.getD (j / 65) (0, noS)) (by rw [List.getD_eq_getElem?_getD, List.getElem?_eq_getElem hi]; exact List.getElem_mem hi)
    have hlen : j % 65 < (wc (kept.getD (j / 65) (0, noS))).length := by rw [wc_len, hz]; omega
    have h3 := wcs_at kept (j / 65) h.z1 hi (j % 65) _ (List.getElem?_eq_getElem hlen)
    have h4 := h.c1 (j / 65) hi (j % 65) _ (List.getElem?_eq_getElem hlen)
    rw [← e] at h3 h4
    rw [h3, ← h4]
    have hj2 : j < cur.size := by omega
    simp [World.cell?, h1, hj2]
  · rw [List.getElem?_eq_none (by rw [List.length_take]; omega), List.getElem?_eq_none (by omega)]
theorem size99 : (Tryz.prog.info? 165).map (·.size) = some 65 := by kernel_rfl
theorem wpList_append_tk {w : World} {ops : Array Oper} {rest : List Oper} {o : Oper} {a : Act} {Q : Exit → Act → World → Prop} (hgd : o.guard = none) (s x : Operand)
    (ho : o.op = .call { callee := .builtin .append, args := #[s, x], argTypes := #[154, 154] }) (g m cap N c : Nat) (p : Nat × ByteArray) (hp : p.2.size = 64) (hs : a.eval s = .slice (some ⟨g, 0, none⟩) m cap) (hx : a.eval x = .slice (some ⟨N, 0, none⟩) 1 c) (hr : w.rangeAt N 0 (wc p)) (ht : w.there g 0 (cap * 65)) (hm : m + 1 ≤ cap)
    (h : wpList Tryz.prog ops Q rest (a.put o.dst (.slice (some ⟨g, 0, none⟩) (m + 1) cap)) (w.setCells g (m * 65) (wc p))) : wpList Tryz.prog ops Q (o :: rest) a w := by
  obtain ⟨i, hi, hs0⟩ := Option.map_eq_some_iff.1 size99
  have hl : (wc p).length = 65 := by rw [wc_len, hp]
  have hh : ∀ j, j < (wc p).length → (w.cell? ⟨g, 0 + m * i.size + j, none⟩).isSome = true ∧ w.frozen? ⟨g, 0 + m * i.size + j, none⟩ = false := fun j hj => by
    rw [hs0]
    have := ht (m * 65 + j) (by rw [hl] at hj; have := Nat.mul_le_mul_right 65 hm; omega)
    rw [show 0 + (m * 65 + j) = 0 + m * 65 + j by omega] at this
    exact this
  have hrun := run_append_room_cells (P := Tryz.prog) w 154 o.type 165 i Tryz.underlying154 hi g 0 m cap ⟨N, 0, none⟩ 1 c (wc p) (by rw [hl, hs0]) (fun j u hu => by rw [Addr.add_mid]; exact hr j u hu) (wc_one p) hm (fun j hj => (hh j hj).1) (fun j hj => (hh j hj).2)
  rw [hs0, Nat.zero_add] at hrun
  refine wpList_plain hgd fun K hK' => ?_
  unfold Oper.wp
  simp [execOp, ho, resolve, invoke, builtin, hs, hx, hrun, Result.andThen]
  exact hK' _ _ h
theorem wpList_buildW {w : World} {ops : Array Oper} {rest : List Oper} {o : Oper} {a : Act} {Q : Exit → Act → World → Prop} (hgd : o.guard = none) (x : Operand) (ho : o.op = .buildSlice 154 1 #[(0, x)]) (p : Nat × ByteArray) (hz : p.2.size = 64) (hx : a.eval x = .agg (wc p).toArray)
    (h : ∀ N w', Kp w w' → w'.rangeAt N 0 (wc p) → w.heap.size ≤ N → wpList Tryz.prog ops Q rest (a.put o.dst (.slice (some ⟨N, 0, none⟩) 1 1)) w') : wpList Tryz.prog ops Q (o :: rest) a w :=
  wpList_plain hgd fun K hK' => wp_buildW x ho p hz hx (fun N w' h1 h2 h3 => hK' _ _ (h N w' h1 h2 h3))
set_option maxRecDepth 100000 in
set_option maxHeartbeats 2000000 in
theorem takeR {w : World} {b bn bl c : Nat} {rv : Value} {S : MS} {x y : Int} (h : MemIn w b bn bl rv S x y) (f : Nat → (Nat × ByteArray) → Bool)
    (hcl : ∀ (w' : World) (k : Nat) (p : Nat × ByteArray), k < S.row.length → Sp rv.ownBlock.toList w w' → p.2.size = 64 → Calls Tryz.prog 58 #[.int .i64 (k : Int), .agg (wc p).toArray, .pointer (some ⟨c, 0, none⟩)] w' fun e w'' => e = .returned (.bool (!f k p)) ∧ Kp w' w'') :
    Calls Tryz.prog 57 #[.pointer (some ⟨b, 0, none⟩), .func (.func 58) #[] #[.pointer (some ⟨c, 0, none⟩)]] w fun e w' => e = .returned (.tuple #[]) ∧ ∃ rv', MemIn w' b bn bl rv' ⟨S.now, S.las, tk f 0 S.row, S.dead, S.c⟩ x y ∧ Sp (blk b bn bl rv) w w' ∧ Nw w (blk b bn bl rv) (blk b bn bl rv') := by
  obtain ⟨a, cap, rfl, hn1, hn2⟩ := h.rw.len
  obtain ⟨n, hn⟩ : ∃ n, n = S.row.length := ⟨_, rfl⟩
  rw [← hn] at h hn1 hcl ⊢
  have HN : Hid (n = S.row.length) := hn
  have cR := h.cR
  have hcp : cap ≤ maxLen := by unfold maxLen; omega
  have HH := hid h
  have HCL := hid hcl
  clear hn h hcl
  by_cases hn0 : n = 0
  · have hrow : S.row = [] := List.eq_nil_of_length_eq_zero (by rw [← HN.out]; exact hn0)
    subst hn0
    have z12 := HH.out.z 12
    go_enter Tryz.func57, Tryz.ntmps57
    have hsl : ∀ W : World, (Instr.slice 154 (.slice a 0 cap) none (some (.int .i64 0)) none).run Tryz.prog W = .ok (.slice a 0 cap) W := fun W => by
      cases a with
      | none => simp [Instr.slice, go_sem]
      | some q => simp [Instr.slice, go_sem]
    go_wp2_with fail
    refine wp_loop_rounds 1 ?_
    rw [rounds_succ]
    go_wp2
    go_end0
    have M := HH.out.row (Sp.refl _ _) (.slice a 0 cap) S.row HH.out.rw HH.out.n4 (fun p hp => (HH.out.fine.br p hp).1)
    refine ⟨rfl, _, ?_, ((Sp.refl [b] w).set b 12 (by simp) _).b, Nw.refl _ _⟩
    rw [show tk f 0 S.row = S.row by rw [hrow]; rfl]
    exact M
  · have h0 : 0 < S.row.length := by rw [← HN.out]; omega
    obtain ⟨g, cap', hv, _, _, _, _⟩ := HH.out.rw.some h0
    obtain rfl : a = some ⟨g, 0, none⟩ := by simp only [Value.slice.injEq] at hv; exact hv.1
    have hgb : g ≠ b ∧ g ≠ bn ∧ g ≠ bl := HH.out.n4 g rfl
    have hgl : g < w.heap.size := HH.out.low g (by simp [blk, Value.ownBlock])
    have TK0 := hid (tk_of (by have := HH.out.rw; rw [HN.out] at this; exact this) : Tk w g cap 0 S.row [])
    have HG := hid hgb
    have hsl : ∀ W : World, (Instr.slice 154 (.slice (some ⟨g, 0, none⟩) n cap) none (some (.int .i64 0)) none).run Tryz.prog W = .ok (.slice (some ⟨g, 0, none⟩) 0 cap) W := fun W => by
      simp [Instr.slice, go_sem]
    clear hv hgb
    go_enter Tryz.func57, Tryz.ntmps57
    go_wp2_with fail
    go_loopw [4, 17] (fun v i wr => ∃ k m : Nat, k ≤ n ∧ m ≤ k ∧ i = .int .i64 k ∧ v = .slice (some ⟨g, 0, none⟩) m cap ∧ Hid (m = (tk f 0 (S.row.take k)).length) ∧ Hid (Tk wr g cap k S.row (tk f 0 (S.row.take k))) ∧ Hid (Sp [g] w wr)) (fun _ i _ => n - (intOf i).toNat)
    case atStart => exact ⟨0, 0, by omega, by omega, by go_num, rfl, rfl, TK0, Sp.refl _ _⟩
    case round =>
      clear hsl cR TK0
      obtain ⟨k, m, hk, hmk, rfl, rfl, HM, HT, HS⟩ := hrel
      by_cases hlt : k < n
      · have hks : k < S.row.length := by rw [← HN.out]; exact hlt
        have hpt := tk_take f S.row k hks
        have hr := HT.out.c2 k (Nat.le_refl _) hks
        have hp2 := HT.out.z2 (S.row.getD k (0, noS)) (by rw [List.getD_eq_getElem?_getD, List.getElem?_eq_getElem hks]; exact List.getElem_mem hks)
        obtain ⟨p, hp⟩ : ∃ p, p = S.row.getD k (0, noS) := ⟨_, rfl⟩
        rw [← hp] at hr hpt hp2
        have HP := hid hpt
        have HR := hid hr
        clear hp hpt hr
        go_wp2_with (first | refine wpList_load_w rfl _ rfl g (k * 65) rfl p hp2 HR.out ?_ | refine wpList_store_new rfl _ _ rfl p hp2 _ rfl rfl rfl ?_)
        intro w2 k2 V2 hl2
        obtain ⟨K, hKK⟩ : ∃ K, K = wr.heap.size := ⟨_, rfl⟩
        rw [← hKK] at V2 hl2 ⊢
        have hgK : g ≠ K := by have := HS.out.size; omega
        have HT2 := hid (HT.out.sp (k2.sp []) (by simp))
        have HS2 := hid (HS.out.trans (k2.sp _))
        have HV2 := hid V2
        have HR2 := hid V2.r
        have hwK : w.heap.size ≤ K := by have := HS.out.size; omega
        clear hKK HT HS HR k2 V2
        go_wp2_with (refine wpList_load_w rfl _ rfl K 0 rfl p hp2 HR2.out ?_)
        refine (HCL.out w2 k p hlt (by simpa [Value.ownBlock] using HS2.out) hp2).mono ?_
        rintro e w3 ⟨rfl, k3⟩
        have HT3 := hid (HT2.out.sp (k3.sp []) (by simp))
        have HS3 := hid (HS2.out.trans (k3.sp _))
        have HV3 := hid (HV2.out.sp (k3.sp []) (by simp))
        have HR3 := hid HV3.out.r
        clear HT2 HS2 HV2 HR2 k3
        cases hf : f k p with
        | false =>
          rw [hf] at HP
          have HP2 : Hid (tk f 0 (S.row.take (k + 1)) = tk f 0 (S.row.take k)) := hid (by have := HP.out; simpa using this)
          clear HP hf HCL
          go_wp2
          go_roundw
          case rel => exact ⟨k + 1, m, by omega, by omega, by go_num, rfl, by rw [HP2.out]; exact HM, by rw [HP2.out]; exact HT3.out.skip, HS3⟩
          case measure => simp [intOf]; omega
        | true =>
          rw [hf] at HP
          have HP2 : Hid (tk f 0 (S.row.take (k + 1)) = tk f 0 (S.row.take k) ++ [p]) := hid (by have := HP.out; simpa using this)
          clear HP hf HCL
          go_wp2_with (first | refine wpList_load_w rfl _ rfl K 0 rfl p hp2 HR3.out ?_ | refine wpList_buildW rfl _ rfl p hp2 rfl ?_)
          intro N w4 k4 hN hNl
          have hT4 := HT3.out.sp (k4.sp []) (by simp)
          have HTH := hid hT4.there
          have HRN := hid hN
          have hgN : g ∉ [K] := by simpa using hgK
          have hmc : m + 1 ≤ cap := by omega
          have HT5 : Hid (Tk (w4.setCells g (m * 65) (wc p)) g cap (k + 1) S.row (tk f 0 (S.row.take (k + 1)))) := by
            rw [HP2.out, HM.out]
            exact hT4.put p hp2 (by rw [← HM.out]; exact hmk) hks (by rw [← HN.out]; exact hn1)
          have HS5 : Hid (Sp [g] w (w4.setCells g (m * 65) (wc p))) := Sp.setCells g (by simp) _ _ _ (HS3.out.trans (k4.sp _))
          have HM5 : Hid (m + 1 = (tk f 0 (S.row.take (k + 1))).length) := by rw [HP2.out, HM.out]; simp [Hid]
          obtain ⟨w5, hw5⟩ : ∃ w5, w5 = w4.setCells g (m * 65) (wc p) := ⟨_, rfl⟩
          rw [← hw5] at HT5 HS5
          have HW5 := hid hw5
          clear hw5 hT4 hN k4 HT3 HS3 HV3 HR3 HP2 HM
          go_wp2_with (refine wpList_append_tk rfl _ _ rfl g m cap N 1 p hp2 rfl rfl HRN.out HTH.out hmc ?_)
          rw [← HW5.out]
          clear HW5 HTH HRN
          go_wp2
          go_roundw
          case rel => exact ⟨k + 1, m + 1, by omega, by omega, by go_num, by go_num, HM5, HT5, HS5⟩
          case measure => simp [intOf]; omega
      · obtain rfl : k = n := by omega
        have hall : S.row.take k = S.row := by rw [HN.out, List.take_length]
        rw [hall] at HM HT
        have cR := HS.out.held HH.out.cR (show b ∉ [g] by simpa using HG.out.1.symm)
        have z12 := (HS.out.frozen HH.out.hb (show b ∉ [g] by simpa using HG.out.1.symm) 12).trans (HH.out.z 12)
        have hmm : (tk f 0 S.row).length ≤ cap := by have := tk_len f S.row 0; have := HN.out; omega
        have hrow : RowIn wr (.slice (some ⟨g, 0, none⟩) m cap) (tk f 0 S.row) := by rw [HM.out]; exact HT.out.row hmm hcp
        have M := HH.out.row (w' := wr) (by simpa [Value.ownBlock] using HS.out) (.slice (some ⟨g, 0, none⟩) m cap) (tk f 0 S.row) hrow (fun q hq => by cases hq; exact HG.out) (fun p hp => (HH.out.fine.br p (tk_mem f S.row 0 p hp)).1)
        have SP : Sp (blk b bn bl (.slice (some ⟨g, 0, none⟩) k cap)) w (wr.setCell ⟨b, 12, none⟩ (.slice (some ⟨g, 0, none⟩) m cap)) := (HS.out.mono (fun t ht => by simp at ht; subst ht; simp [blk, Value.ownBlock])).trans ((Sp.refl [b] wr).set b 12 (by simp) _).b
        clear HS HT HM HCL hrow
        go_wp2
        go_end0
        exact ⟨rfl, _, M, SP, fun t ht => .inl (by simpa [blk, Value.ownBlock] using ht)⟩

end Go.Proofs.YtonooelffokfkaaGreatDoor

namespace Go.Proofs.YtonooelffokfkaaGreatDoor
open Go.RowKit Plain
set_option linter.unusedVariables false

/-! ### words in memory -/
structure KeIn (w : World) (v : Value) (ks : List Nat) : Prop where
  h : ∃ a cap, v = .slice a ks.length cap ∧ ks.length ≤ 9223372036854775807 ∧ cap ≤ 9223372036854775807 ∧ (0 < ks.length → ∃ g off, a = some ⟨g, off, none⟩ ∧ ∀ i, i < ks.length → w.cell? ⟨g, off + i, none⟩ = some (.int .u64 ((ks.getD i 0 : Nat) : Int)))
  z : ∀ x ∈ ks, x < 18446744073709551616
theorem KeIn.sp {w w' : World} {v : Value} {ks : List Nat} (h : KeIn w v ks) {T : List Nat} (k : Sp T w w') (hT : ∀ t, t ∈ T → ∀ g off n c, v = .slice (some ⟨g, off, none⟩) n c → 0 < n → g ≠ t) : KeIn w' v ks := by
  obtain ⟨a, cap, rfl, h1, h1b, h2⟩ := h.h
  refine ⟨⟨a, cap, rfl, h1, h1b, fun h0 => ?_⟩, h.z⟩
  obtain ⟨g, off, rfl, h3⟩ := h2 h0
  exact ⟨g, off, rfl, fun i hi => k.held (h3 i hi) (fun ht => hT g ht g off _ _ rfl h0 rfl)⟩
theorem KeIn.kp {w w' : World} {v : Value} {ks : List Nat} (h : KeIn w v ks) (k : Kp w w') : KeIn w' v ks := h.sp (k.sp []) (fun t ht => by cases ht)
theorem KeIn.far {w : World} {v : Value} {ks : List Nat} (h : KeIn w v ks) : ∀ g off n c, v = .slice (some ⟨g, off, none⟩) n c → 0 < n → g < w.heap.size := fun g off n c hv hn => by
  obtain ⟨a, cap, e, _, _, h2⟩ := h.h
  rw [e] at hv
  simp only [Value.slice.injEq] at hv
  obtain ⟨rfl, rfl, rfl⟩ := hv
  obtain ⟨g', off', e2, h3⟩ := h2 hn
  cases e2
  exact World.block_lt_of_cell? w _ (h3 0 hn)
/-- is the place's bit 1? -/
def bit (ks : List Nat) (k : Nat) : Bool := decide (k / 64 < ks.length) && decide (ks.getD (k / 64) 0 / 2 ^ (k % 64) % 2 = 1)
set_option maxRecDepth 100000 in
theorem gone_rot (c : Nat) (a : Int) (k : Nat) (p : Nat × ByteArray) (hp : p.2.size = 64) (w : World) (hc : w.cell? ⟨c, 0, none⟩ = some (.int .i64 a)) :
    Calls Tryz.prog 58 #[.int .i64 (k : Int), .agg (wc p).toArray, .pointer (some ⟨c, 0, none⟩)] w fun e w' => e = .returned (.bool (!nq a k p)) ∧ Kp w w' := by
  have kA : Kp w (w.alloc (.cells (wc p).toArray 165)) := (Kp.refl w).alloc _
  have hcl : c < w.heap.size := World.block_lt_of_cell? w _ hc
  have hx : (wc p).toArray[0]? = some (.int .i64 (p.1 : Int)) := rfl
  obtain ⟨A, hA⟩ : ∃ A, A = (wc p).toArray := ⟨_, rfl⟩
  rw [← hA] at kA hx ⊢
  clear hA
  obtain ⟨B, hB⟩ : ∃ B, B = nq a k p := ⟨_, rfl⟩
  have hB2 : ((p.1 : Int) == a) = !B := by
    rw [hB]; unfold nq
    by_cases e : (p.1 : Int) = a <;> simp [e]
  rw [← hB]
  clear hB
  obtain ⟨x, hxx⟩ : ∃ x : Int, x = (p.1 : Int) := ⟨_, rfl⟩
  rw [← hxx] at hx hB2
  clear hxx
  go_enter Tryz.func58, Tryz.ntmps58
  go_wp2
  go_ret
  exact ⟨rfl, kA⟩


/-! ### Rot -/
set_option maxRecDepth 100000 in
set_option maxHeartbeats 1000000 in
theorem rot_any {w : World} {b bn bl : Nat} {rv : Value} {S : MS} (h : MemIn w b bn bl rv S 0 0) (k : Int) (s : ByteArray) :
    Calls Tryz.prog 19 #[.pointer (some ⟨b, 0, none⟩), .int .i64 k, .string s] w fun e w' => e = .returned (.bool (rtB S k s)) ∧ Md w w' b bn bl rv (rt S k s) := by
  obtain ⟨c, hc⟩ : ∃ c, c = w.heap.size := ⟨_, rfl⟩
  obtain ⟨W, hW⟩ : ∃ W, W = w.alloc (.cells #[.int .i64 k] 3) := ⟨_, rfl⟩
  have kW : Kp w W := by rw [hW]; exact (Kp.refl w).alloc _
  have hcv : W.cell? ⟨c, 0, none⟩ = some (.int .i64 k) := by rw [hW, World.cell?_alloc_at _ _ _ _ hc]; rfl
  have hcT : ∀ t, t ∈ blk b bn bl rv → t ≠ c := fun t ht => by have := h.low t ht; omega
  have hM := h.kp kW
  have HW := hid hW
  have HC := hid hc
  have hr := fun w1 (h1 : MemIn w1 b bn bl rv S 1 (-1073741824)) => reach_any h1 k
  by_cases hB : rtB S k s = true
  · have e2 : rt S k s = ⟨S.now.set k.toNat s, S.las.set k.toNat s, tk (nq k) 0 S.row, S.dead, S.c⟩ := if_pos hB
    unfold rtB at hB
    rw [Bool.and_eq_true, decide_eq_true_eq, decide_eq_true_eq] at hB
    obtain ⟨hE, hs⟩ := hB
    obtain ⟨_, h0, hlt⟩ := rc_ok hE
    obtain ⟨i, rfl⟩ : ∃ i : Nat, k = (i : Int) := ⟨k.toNat, by omega⟩
    have hi : i < S.las.length := by omega
    have hi2 : i < S.now.length := by rw [h.fine.nn]; exact hi
    rw [Int.toNat_natCast] at e2
    have HE2 := hid e2
    have HT := hid (show rtB S (i : Int) s = true by unfold rtB; rw [decide_eq_true hE, decide_eq_true hs]; rfl)
    rw [hE] at hr
    have hss : (s.size : Int) = 64 := by omega
    have hn2 := h.fine.n2
    have hnn := h.fine.nn
    have HS := hid hs
    have HNN := hid hnn
    clear hW hc h hE e2 hs hnn
    go_enter_defers Tryz.func19, Tryz.ntmps19
    go_wp2_with fail
    rw [← HW.out, ← HC.out]
    refine (lock_any hM).mono ?_
    rintro e w1 ⟨rfl, h1', k1⟩
    have cc := k1.held hcv (by simpa using (hcT b (b_mem _ _ _ _)).symm)
    go_wp2_with fail
    refine (hr _ h1').mono ?_
    rintro e w2 ⟨rfl, k2⟩
    have h2 := h1'.kp k2
    have K2 : Sp (blk b bn bl rv) W w2 := (k1.trans (k2.sp _)).b
    clear cc
    go_wp2_with fail
    refine (takeR h2 (nq (i : Int)) (fun w' k p hks hs hp => gone_rot c (i : Int) k p hp w' ((K2.trans hs.rw).held hcv (fun hm => hcT c hm rfl)))).mono ?_
    rintro e w3 ⟨rfl, rv3, h3, k3, n3⟩
    have S3 : Sp (blk b bn bl rv) w w3 := ((kW.sp _).trans K2).trans k3
    have N3 : Nw w (blk b bn bl rv) (blk b bn bl rv3) := (Nw.refl w _).trans n3 (Nat.le_trans kW.size K2.size)
    have cc := (K2.trans k3).held hcv (fun hm => hcT c hm rfl)
    have hcb : c ∉ [bn] := by simpa using (hcT bn (bn_mem _ _ _ _)).symm
    have hcb2 : c ∉ [bl] := by simpa using (hcT bl (bl_mem _ _ _ _)).symm
    have hcb3 : b ∉ [bn] := by simpa using h3.n1.symm
    have cN := h3.cN
    have cL := h3.cL
    simp only at cN cL h3
    have H3 := hid h3
    clear h1' h2 k1 k2 K2 k3 n3 hcT hcv hM hr kW HW HC h3
    have q1 := kpw_cell cN
    have q2 := kpw_cell cc
    have hil : (i : Int) < (S.las.length : Int) := hlt
    go_wp2_with fail
    refine wp_region_tailc2 rfl (by kernel_rfl) (by kernel_rfl) (by kernel_rfl) ?_
    simp only [List.dropLast]
    repeat (first
      | go_big_quiet_skip
      | (go_big_quiet_want; go_big_quiet_op; go_big_quiet_on))
    refine wpQuiet_nil ?_
    rintro w9 ⟨q, hp9⟩
    have kD : Kp w3 w9 := by rw [hp9]; exact kpw_kp w3 q
    clear hp9 q1 q2
    have M9 := H3.out.kp kD
    have hcp := run_copy_str w9 3 bn (i * 64) 64 s HS.out (M9.sn.at hi2)
    have hsp : Sp [bn] w9 (w9.setCells bn (i * 64) (byteCells s)) := Sp.setCells bn (by simp) _ _ _ (Sp.refl _ _)
    have M10 := M9.nows hsp (S.now.set i s) (M9.sn.set i hi2 s HS.out) (by rw [List.length_set]; exact HNN.out)
    simp only at M10
    have S10 := (S3.trans (kD.sp _)).trans hsp.bn
    have cc10 := hsp.held (kD.held cc) hcb
    have cL10 := M10.cL
    simp only at cL10
    obtain ⟨w10, hw10⟩ : ∃ w10, w10 = w9.setCells bn (i * 64) (byteCells s) := ⟨_, rfl⟩
    rw [← hw10] at hcp M10 S10 cc10 cL10
    clear M9 hsp hw10 H3 S3 kD cN cL cc
    have H10 := hid M10
    clear M10
    refine wpList_copy_run rfl (.tmp 34) (.tmp 35) 23 9 rfl _ _ _ _ rfl rfl hcp ?_
    clear hcp
    show wpList _ _ _ [] (Act.put _ (some 36) (.int .i64 64)) _
    simp only [Act.put, List.setIfInBounds_toArray, List.set_cons_succ, List.set_cons_zero]
    have q1 := kpw_cell cL10
    have q2 := kpw_cell cc10
    go_wp2_with fail
    refine wp_region_tailc2 rfl (by kernel_rfl) (by kernel_rfl) (by kernel_rfl) ?_
    simp only [List.dropLast]
    repeat (first
      | go_big_quiet_skip
      | (go_big_quiet_want; go_big_quiet_op; go_big_quiet_on))
    refine wpQuiet_nil ?_
    rintro w19 ⟨q', hp19⟩
    have kD2 : Kp w10 w19 := by rw [hp19]; exact kpw_kp w10 q'
    clear hp19 q1 q2
    have M19 := H10.out.kp kD2
    have hcp2 := run_copy_str w19 3 bl (i * 64) 64 s HS.out (M19.sl.at hi)
    have hsp2 : Sp [bl] w19 (w19.setCells bl (i * 64) (byteCells s)) := Sp.setCells bl (by simp) _ _ _ (Sp.refl _ _)
    have M20 := M19.lasts hsp2 (S.las.set i s) (M19.sl.set i hi s HS.out) (by rw [List.length_set])
    simp only at M20
    have S20 := (S10.trans (kD2.sp _)).trans hsp2.bl
    obtain ⟨w20, hw20⟩ : ∃ w20, w20 = w19.setCells bl (i * 64) (byteCells s) := ⟨_, rfl⟩
    rw [← hw20] at hcp2 M20 S20
    clear M19 hsp2 hw20 H10 S10 kD2 cL10 cc10
    refine wpList_copy_run rfl (.tmp 43) (.tmp 44) 23 9 rfl _ _ _ _ rfl rfl hcp2 ?_
    go_wp2_with fail
    refine leaves_cons (f := 55) (args := #[.pointer (some ⟨b, 4, none⟩)]) (by simp) (by simp [go_sem]) ?_
    refine (unlock_any M20 .returning).mono ?_
    rintro e u' w21 ⟨rfl, rfl, h21, k21⟩
    refine ⟨_, results_tmp rfl _ _ _, by rw [HT.out]; rfl, ?_⟩
    rw [HE2.out]
    exact ⟨_, h21, S20.trans k21.b, N3⟩
  · have e1 : rtB S k s = false := by simpa using hB
    have e2 : rt S k s = S := if_neg hB
    rw [e1, e2]
    have hh : ¬ rcE S k = 0 ∨ (rcE S k = 0 ∧ ¬ s.size = 64) := by
      unfold rtB at hB
      by_cases h1 : rcE S k = 0
      · right; exact ⟨h1, fun h2 => hB (by simp [h1, h2])⟩
      · left; exact h1
    obtain ⟨E, hEE⟩ : ∃ E, E = rcE S k := ⟨_, rfl⟩
    rw [← hEE] at hh hr
    clear hW hc h hEE hB e1 e2
    rcases hh with hE | ⟨rfl, hs⟩
    · have hE2 : (E == 0) = false := by simpa using hE
      go_enter_defers Tryz.func19, Tryz.ntmps19
      go_wp2_with fail
      rw [← HW.out, ← HC.out]
      refine (lock_any hM).mono ?_
      rintro e w1 ⟨rfl, h1', k1⟩
      have cc := k1.held hcv (by simpa using (hcT b (b_mem _ _ _ _)).symm)
      go_wp2_with fail
      refine (hr _ h1').mono ?_
      rintro e w2 ⟨rfl, k2⟩
      have h2 := h1'.kp k2
      go_wp2_with fail
      refine leaves_cons (f := 55) (args := #[.pointer (some ⟨b, 4, none⟩)]) (by simp) (by simp [go_sem]) ?_
      refine (unlock_any h2 .returning).mono ?_
      rintro e u' w4 ⟨rfl, rfl, h4, k4⟩
      exact ⟨_, results_tmp rfl _ _ _, rfl, Md.same h4 (((kW.sp _).trans (k1.trans (k2.sp _))).trans k4).b⟩
    · have hs2 : ((s.size : Int) == 64) = false := by simpa using (by omega : ¬ (s.size : Int) = 64)
      have hs3 : ¬ (s.size : Int) = 64 := by omega
      go_enter_defers Tryz.func19, Tryz.ntmps19
      go_wp2_with fail
      rw [← HW.out, ← HC.out]
      refine (lock_any hM).mono ?_
      rintro e w1 ⟨rfl, h1', k1⟩
      have cc := k1.held hcv (by simpa using (hcT b (b_mem _ _ _ _)).symm)
      go_wp2_with fail
      refine (hr _ h1').mono ?_
      rintro e w2 ⟨rfl, k2⟩
      have h2 := h1'.kp k2
      go_wp2_with fail
      refine leaves_cons (f := 55) (args := #[.pointer (some ⟨b, 4, none⟩)]) (by simp) (by simp [go_sem]) ?_
      refine (unlock_any h2 .returning).mono ?_
      rintro e u' w4 ⟨rfl, rfl, h4, k4⟩
      exact ⟨_, results_tmp rfl _ _ _, rfl, Md.same h4 (((kW.sp _).trans (k1.trans (k2.sp _))).trans k4).b⟩

end Go.Proofs.YtonooelffokfkaaGreatDoor

namespace Go.Proofs.YtonooelffokfkaaGreatDoor
open Go.RowKit Plain
set_option linter.unusedVariables false

/-- numbers in a block. -/
structure Nm (w : World) (g n : Nat) (f : Nat → Int) : Prop where
  c : ∀ i, i < n → w.cell? ⟨g, i, none⟩ = some (.int .i64 (f i))
  z : ∀ i, i < n → w.frozen? ⟨g, i, none⟩ = false
theorem Nm.kp {w w' : World} {g n : Nat} {f : Nat → Int} (h : Nm w g n f) (k : Kp w w') : Nm w' g n f := ⟨fun i hi => k.held (h.c i hi), fun i hi => (Below.frozen (p := ⟨g, i, none⟩) k (World.block_lt_of_cell? w _ (h.c i hi))).trans (h.z i hi)⟩
theorem Nm.set {w : World} {g n : Nat} {f : Nat → Int} (h : Nm w g n f) (j : Nat) (x : Int) : Nm (w.setCell ⟨g, j, none⟩ (.int .i64 x)) g n (fun i => if i = j then x else f i) :=
  ⟨fun i hi => by
    by_cases e : i = j
    · subst e; show _ = some (Value.int .i64 (if i = i then x else f i)); rw [if_pos rfl]; exact World.cell?_setCell_same _ _ _ (h.c i hi)
    · show _ = some (Value.int .i64 (if i = j then x else f i)); rw [if_neg e, cell_off _ _ _ _ _ e]; exact h.c i hi, fun i hi => (World.frozen?_setCell _ _ _ _).trans (h.z i hi)⟩
theorem Nm.congr {w : World} {g n : Nat} {f f' : Nat → Int} (h : Nm w g n f) (e : ∀ i, i < n → f i = f' i) : Nm w g n f' := ⟨fun i hi => by rw [← e i hi]; exact h.c i hi, h.z⟩
theorem Nm.made (w : World) (n : Nat) : Nm (w.alloc (.cells (madeCells #[.int .i64 0] n) 3)) w.heap.size n (fun _ => 0) :=
  ⟨fun i hi => by rw [World.cell?_alloc_at _ _ _ _ rfl]; simp [madeCells, hi, Nat.mod_one], fun i hi => World.frozen?_alloc_at _ _ _ _ rfl⟩

end Go.Proofs.YtonooelffokfkaaGreatDoor

namespace Go.Proofs.YtonooelffokfkaaGreatDoor
open Go.RowKit Plain
set_option linter.unusedVariables false

/-- the bytes of an act. -/
def scS (x : Nat) (odd : Bool) : ByteArray := bs 1 (fun _ => x) ++ bs (if odd then 62 else 63) (fun _ => 0)
theorem scS_size (x : Nat) : (scS x false).size = 64 := by
  unfold scS
  rw [ByteArray.size_append, bs_size, bs_size]
  rfl
theorem conv_of (W : World) (g n : Nat) (f : Nat → Nat) (h : ∀ i, i < n → W.cell? ⟨g, i, none⟩ = some (.int .u8 ((f i : Nat) : Int))) : (convert 23 9 (.slice (some ⟨g, 0, none⟩) n n)).run Tryz.prog W = .ok (.string (bs n f)) W := by
  refine run_convert_bytes_arg (P := Tryz.prog) W 23 5 Tryz.underlying23 Tryz.underlying5 g 0 n n ((List.range n).map fun i => ((f i : Nat) : Int)) (by simp) (fun i hi => ?_) 9 Tryz.underlying9
  rw [Nat.zero_add, h i (by simpa using hi)]
  simp only [List.getD_eq_getElem?_getD, List.getElem?_map]
  rw [List.getElem?_range (by simpa using hi)]
  rfl
set_option maxRecDepth 100000 in
theorem sector_any (x : Nat) (hx : x < 256) (odd : Bool) (w : World) : Calls Tryz.prog 18 #[.int .u8 (x : Int), .bool odd] w fun e w' => e = .returned (.string (scS x odd)) ∧ Kp w w' := by
  obtain ⟨n, hn⟩ : ∃ n, n = (if odd then 62 else 63) := ⟨_, rfl⟩
  unfold scS
  rw [← hn]
  have hn2 : n ≤ 63 := by rw [hn]; split <;> omega
  have HN := hid hn
  obtain ⟨X, hX⟩ : ∃ X, X = Obj.cells #[.int .u8 (x : Int)] 5 := ⟨_, rfl⟩
  obtain ⟨Z, hZ⟩ : ∃ Z, Z = Obj.cells (madeCells #[.int .u8 0] n) 5 := ⟨_, rfl⟩
  have cX : ∀ (W W' : World) (g : Nat), g = W.heap.size → Kp (W.alloc X) W' → (convert 23 9 (.slice (some ⟨g, 0, none⟩) 1 1)).run Tryz.prog W' = .ok (.string (bs 1 (fun _ => x))) W' := fun W W' g hg k => by
    refine conv_of W' g 1 _ (fun i hi => k.held ?_)
    obtain rfl : i = 0 := by omega
    rw [hX, World.cell?_alloc_at _ _ _ _ hg]; rfl
  have cZ : ∀ (W W' : World) (g : Nat), g = W.heap.size → Kp (W.alloc Z) W' → (convert 23 9 (.slice (some ⟨g, 0, none⟩) n n)).run Tryz.prog W' = .ok (.string (bs n (fun _ => 0))) W' := fun W W' g hg k => by
    refine conv_of W' g n _ (fun i hi => k.held ?_)
    rw [hZ, World.cell?_alloc_at _ _ _ _ hg]; simp [madeCells, hi, Nat.mod_one]
  have c1 := cX w (w.alloc X).drew w.heap.size rfl (Kp.refl _).drew
  have c2 := cX w ((w.alloc X).alloc Z).drew w.heap.size rfl ((Kp.refl _).alloc _).drew
  have c3 := cX (w.alloc Z) ((w.alloc Z).alloc X).drew (w.heap.size + 1) (by simp) (Kp.refl _).drew
  have d1 := cZ w (w.alloc Z).drew w.heap.size rfl (Kp.refl _).drew
  have d2 := cZ w ((w.alloc Z).alloc X).drew w.heap.size rfl ((Kp.refl _).alloc _).drew
  have d3 := cZ (w.alloc X) ((w.alloc X).alloc Z).drew (w.heap.size + 1) (by simp) (Kp.refl _).drew
  have hmk := fun W => run_make_row' (P := Tryz.prog) 23 5 (.int .u8 0) 1 Tryz.underlying23 info_u8 rfl .i64 .i64 n (by omega) (by omega) W
  rw [hX, hZ] at c2 c3 d2 d3
  rw [hX] at c1
  rw [hZ] at d1
  have K1 : Kp w ((w.alloc X).alloc Z).drew := (((Kp.refl w).alloc _).alloc _).drew
  have K2 : Kp w ((w.alloc Z).alloc X).drew := (((Kp.refl w).alloc _).alloc _).drew
  rw [hX, hZ] at K1 K2
  obtain ⟨A, hA⟩ : ∃ A, A = bs 1 (fun _ => x) := ⟨_, rfl⟩
  obtain ⟨B, hB⟩ : ∃ B, B = bs n (fun _ => 0) := ⟨_, rfl⟩
  rw [← hA] at c1 c2 c3 ⊢
  rw [← hB] at d1 d2 d3 ⊢
  have hAB : ¬ 9223372036854775807 < A.size + B.size := by rw [hA, hB, bs_size, bs_size]; omega
  clear cX cZ hX hZ hA hB hn
  cases odd with
  | true =>
    have hn : n = 62 := by rw [HN.out]; rfl
    subst hn
    have hmk2 : ∀ W : World, (Instr.makeSlice 23 (.int .i64 62) (.int .i64 62)).run Tryz.prog W = .ok (.slice (some ⟨W.heap.size, 0, none⟩) 62 62) (W.alloc (.cells (madeCells #[.int .u8 0] 62) 5)) := hmk
    go_enter Tryz.func18, Tryz.ntmps18
    go_wp2_with fail
    go_region
    all_goals (go_wp2; go_ret; first | exact ⟨rfl, K1⟩ | exact ⟨rfl, K2⟩)
  | false =>
    have hn : n = 63 := by rw [HN.out]; rfl
    subst hn
    have hmk2 : ∀ W : World, (Instr.makeSlice 23 (.int .i64 63) (.int .i64 63)).run Tryz.prog W = .ok (.slice (some ⟨W.heap.size, 0, none⟩) 63 63) (W.alloc (.cells (madeCells #[.int .u8 0] 63) 5)) := hmk
    go_enter Tryz.func18, Tryz.ntmps18
    go_wp2_with fail
    go_region
    all_goals (go_wp2; go_ret; first | exact ⟨rfl, K1⟩ | exact ⟨rfl, K2⟩)

/-! ### what the document fixes -/
theorem nw3 : nw (nwN 3) = ⟨[z64, z64, z64], [z64, z64, z64], [], false, fun _ => 0⟩ := rfl
/-- a member of the call's own since w0. -/
def Ow (w0 w : World) (b : Nat) (T : List Nat) (S : MS) : Prop := ∃ bn bl rv, T = blk b bn bl rv ∧ MemIn w b bn bl rv S 0 0 ∧ ∀ t, t ∈ T → w0.heap.size ≤ t
/-- behind a call on it. -/
def Nx (w0 w w' : World) (b : Nat) (T : List Nat) (S : MS) : Prop := ∃ T', Ow w0 w' b T' S ∧ Sp T w w' ∧ Nw w T T'
theorem Ow.low {w0 w : World} {b : Nat} {T : List Nat} {S : MS} (h : Ow w0 w b T S) : ∀ t, t ∈ T → t < w.heap.size := by
  obtain ⟨bn, bl, rv, rfl, h1, _⟩ := h
  exact h1.low
theorem Ow.new {w0 w : World} {b : Nat} {T : List Nat} {S : MS} (h : Ow w0 w b T S) : ∀ t, t ∈ T → w0.heap.size ≤ t := by
  obtain ⟨bn, bl, rv, rfl, _, h2⟩ := h
  exact h2
theorem Ow.sp {w0 w w' : World} {b : Nat} {T : List Nat} {S : MS} (h : Ow w0 w b T S) {T' : List Nat} (k : Sp T' w w') (hT : ∀ t, t ∈ T → t ∉ T') : Ow w0 w' b T S := by
  obtain ⟨bn, bl, rv, rfl, h1, h2⟩ := h
  exact ⟨bn, bl, rv, rfl, h1.sp k hT, h2⟩
theorem Ow.kp {w0 w w' : World} {b : Nat} {T : List Nat} {S : MS} (h : Ow w0 w b T S) (k : Kp w w') : Ow w0 w' b T S := h.sp (k.sp []) (fun _ _ h => by cases h)
theorem Ow.fine {w0 w : World} {b : Nat} {T : List Nat} {S : MS} (h : Ow w0 w b T S) : Fine S := by
  obtain ⟨bn, bl, rv, rfl, h1, _⟩ := h
  exact h1.fine
theorem Nx.kp {w0 w w' : World} {b : Nat} {T : List Nat} {S S' : MS} (h : Nx w0 w w' b T S) (h0 : Ow w0 w b T S') (k : Kp w0 w) : Kp w0 w' := by
  obtain ⟨T', h1, h2, h3⟩ := h
  exact Sp.kp k h2 h0.new
theorem Ow.nx {w0 w w' : World} {b bn bl : Nat} {rv : Value} {S' : MS} (k : Kp w0 w) (h2 : ∀ t, t ∈ blk b bn bl rv → w0.heap.size ≤ t) (h : Md w w' b bn bl rv S') : Nx w0 w w' b (blk b bn bl rv) S' := by
  obtain ⟨rv', h1, h3, h4⟩ := h
  refine ⟨_, ⟨bn, bl, rv', rfl, h1, fun t ht => ?_⟩, h3, h4⟩
  rcases h4 t ht with h5 | h5
  · exact h2 t h5
  · exact Nat.le_trans k.size h5
theorem ow_new (k : Int) (w0 w : World) (K : Kp w0 w) : Calls Tryz.prog 89 #[.int .i64 k] w fun e w' => ∃ b T, e = .returned (.pointer (some ⟨b, 0, none⟩)) ∧ Ow w0 w' b T (nw (nwN k)) ∧ Kp w w' ∧ (∀ t, t ∈ T → w.heap.size ≤ t) := by
  refine (new_any k w).mono ?_
  rintro e w' ⟨b, bn, bl, rfl, h1, h2, h3, h4, h5⟩
  have hT : ∀ t, t ∈ blk b bn bl (.slice none 0 0) → w.heap.size ≤ t := fun t ht => by
    simp only [blk, Value.ownBlock, List.mem_cons] at ht
    rcases ht with rfl | rfl | rfl | ht
    · exact h3
    · exact h4
    · exact h5
    · cases ht
  exact ⟨b, _, rfl, ⟨bn, bl, _, rfl, h1, fun t ht => Nat.le_trans K.size (hT t ht)⟩, h2, hT⟩
theorem ow_read {w0 w : World} {b : Nat} {T : List Nat} {S : MS} (h : Ow w0 w b T S) (K : Kp w0 w) (k : Int) : Calls Tryz.prog 158 #[.pointer (some ⟨b, 0, none⟩), .int .i64 k] w fun e w' => e = .returned (.tuple #[.string (rdS S k), .int .i64 (rcE S k)]) ∧ Nx w0 w w' b T (rd S k) := by
  obtain ⟨bn, bl, rv, rfl, h1, h2⟩ := h
  exact (read_any h1 k).mono fun e w' ⟨he, hm⟩ => ⟨he, Ow.nx K h2 hm⟩
theorem ow_fail {w0 w : World} {b : Nat} {T : List Nat} {S : MS} (h : Ow w0 w b T S) (K : Kp w0 w) : Calls Tryz.prog 16 #[.pointer (some ⟨b, 0, none⟩)] w fun e w' => e = .returned (.tuple #[]) ∧ Nx w0 w w' b T (fa S) := by
  obtain ⟨bn, bl, rv, rfl, h1, h2⟩ := h
  exact (fail_any h1).mono fun e w' ⟨he, hm⟩ => ⟨he, Ow.nx K h2 hm⟩
theorem ow_rot {w0 w : World} {b : Nat} {T : List Nat} {S : MS} (h : Ow w0 w b T S) (K : Kp w0 w) (k : Int) (s : ByteArray) : Calls Tryz.prog 19 #[.pointer (some ⟨b, 0, none⟩), .int .i64 k, .string s] w fun e w' => e = .returned (.bool (rtB S k s)) ∧ Nx w0 w w' b T (rt S k s) := by
  obtain ⟨bn, bl, rv, rfl, h1, h2⟩ := h
  exact (rot_any h1 k s).mono fun e w' ⟨he, hm⟩ => ⟨he, Ow.nx K h2 hm⟩


end Go.Proofs.YtonooelffokfkaaGreatDoor

namespace Go.Proofs.YtonooelffokfkaaGreatDoor
open Go.ChangeShapes Go.WideShapes Go.ChangeAt Go.RowKit Plain
set_option linter.unusedVariables false

/-- an act. -/
structure AC where
  op : Int
  at_ : Int
  data : Nat
  odd : Bool
  kv : Value
  ks : List Nat
/-- an act's cells. -/
def acs (a : AC) : List Value := [.int .i64 a.op, .int .i64 a.at_, .int .u8 (a.data : Int), .bool a.odd, a.kv]
structure AOk (w : World) (a : AC) : Prop where
  w1 : (Lit.int .i64 a.op).wf = true
  w2 : (Lit.int .i64 a.at_).wf = true
  d : a.data < 256
  k : KeIn w a.kv a.ks
def noA : AC := ⟨0, 0, 0, false, .slice none 0 0, []⟩
structure ActsIn (w : World) (v : Value) (L : List AC) : Prop where
  h : ∃ a cap, v = .slice a L.length cap ∧ L.length ≤ cap ∧ cap ≤ 9223372036854775807 ∧ (0 < L.length → ∃ g off, a = some ⟨g, off, none⟩ ∧ ∀ i, i < L.length → w.rangeAt g (off + i * 5) (acs (L.getD i noA)))
  ok : ∀ i, i < L.length → AOk w (L.getD i noA)
theorem AOk.kp {w w' : World} {a : AC} (h : AOk w a) (k : Kp w w') : AOk w' a := ⟨h.w1, h.w2, h.d, h.k.kp k⟩
theorem ActsIn.kp {w w' : World} {v : Value} {L : List AC} (h : ActsIn w v L) (k : Kp w w') : ActsIn w' v L := by
  obtain ⟨a, cap, rfl, h1, h2, h3⟩ := h.h
  refine ⟨⟨a, cap, rfl, h1, h2, fun h0 => ?_⟩, fun i hi => (h.ok i hi).kp k⟩
  obtain ⟨g, off, rfl, h4⟩ := h3 h0
  exact ⟨g, off, rfl, fun i hi => (k.sp []).range (h4 i hi) (by simp)⟩

section
variable {H : Type} {enc : TypeId × Value → H} {P : Program}
end


end Go.Proofs.YtonooelffokfkaaGreatDoor

namespace Go.Proofs.YtonooelffokfkaaGreatDoor
open Go.RowKit Plain
set_option linter.unusedVariables false

open Classical in
noncomputable def prw (R : World → Prop) (w : World) (p : List World) : World := if R (p.headD w) then p.headD w else w
theorem prw_ok {R : World → Prop} {w : World} (h : R w) (p : List World) : R (prw R w p) := by
  unfold prw
  split
  · assumption
  · exact h
theorem prw_of {R : World → Prop} {w w' : World} (h : R w') : ∃ p, w' = prw R w p := ⟨[w'], by
  unfold prw
  rw [if_pos]
  · rfl
  · exact h⟩
theorem wp_region_pr {P : Program} {id : Nat} {Q : Exit → Act → World → Prop} {a : Act} {w : World} {l : List Oper} (R : World → Prop) (hR : R w.drew) (hm : P.follows .mixedOrders = true) (hB : Region.lexB .any l.toArray = true)
    (h : wpQuiet P l.toArray (fun w' => ∃ p, w' = prw R w.drew p) (fun a' => ∀ w', (∃ p, w' = prw R w.drew p) → Q .normal a' w') l a) : (Code.region id l.toArray true).wp P Q a w :=
  wp_region_quiet (C := fun w' => ∃ p, w' = prw R w.drew p) hm hB (prw_of hR) (by simpa using h)
/-- a contract, met in such a world. -/
theorem pr_call {P : Program} {f : FuncId} {args : Array Value} {R : World → Prop} {w : World} {p : List World} {v : Value}
    (h : Calls P f args (prw R w p) fun e w' => e = .returned v ∧ R w') : Calls P f args (prw R w p) fun e w'' => e = .returned v ∧ ∃ p, w'' = prw R w p :=
  h.mono fun _ _ ⟨he, k⟩ => ⟨he, prw_of k⟩


end Go.Proofs.YtonooelffokfkaaGreatDoor

namespace Go.Proofs.YtonooelffokfkaaGreatDoor
open Go.RowKit Plain
set_option linter.unusedVariables false


/-! ### acts in memory -/
theorem ActsIn.take {w : World} {v : Value} {L : List AC} (h : ActsIn w v L) (m : Nat) (hm : m ≤ L.length) : ∃ a cap, v = .slice a L.length cap ∧ L.length ≤ cap ∧ cap ≤ 9223372036854775807 ∧ (0 < m → ∃ g off, a = some ⟨g, off, none⟩ ∧ ∀ i, i < m → w.rangeAt g (off + i * 5) (acs (L.getD i noA))) := by
  obtain ⟨a, cap, rfl, h1, h2, h3⟩ := h.h
  refine ⟨a, cap, rfl, h1, h2, fun h0 => ?_⟩
  obtain ⟨g, off, rfl, h4⟩ := h3 (by omega)
  exact ⟨g, off, rfl, fun i hi => h4 i (by omega)⟩

/-! ### several members -/
def Dj (T T' : List Nat) : Prop := ∀ t, t ∈ T → t ∉ T'
theorem Dj.symm {T T' : List Nat} (h : Dj T T') : Dj T' T := fun t h1 h2 => h t h2 h1
theorem Nx.keep {w0 w w' : World} {b b2 : Nat} {T T2 T' : List Nat} {S S2 : MS} (h2 : Sp T w w') (h3 : Nw w T T') (o : Ow w0 w b2 T2 S2) (d : Dj T2 T) : Ow w0 w' b2 T2 S2 ∧ Dj T2 T' :=
  ⟨o.sp h2 d, fun t ht ht' => by
    rcases h3 t ht' with h | h
    · exact d t ht h
    · have := o.low t ht; omega⟩
/-- three members. -/
def Tri (w0 w : World) (T : List Nat) (x y z : Nat) (A B C : MS) : Prop := ∃ P Q R, T = P ++ (Q ++ R) ∧ Ow w0 w x P A ∧ Ow w0 w y Q B ∧ Ow w0 w z R C ∧ Dj P Q ∧ Dj P R ∧ Dj Q R
theorem Tri.new {w0 w : World} {T : List Nat} {x y z : Nat} {A B C : MS} (h : Tri w0 w T x y z A B C) : ∀ t, t ∈ T → w0.heap.size ≤ t := by
  obtain ⟨P, Q, R, rfl, h1, h2, h3, _⟩ := h
  intro t ht
  simp only [List.mem_append] at ht
  rcases ht with ht | ht | ht
  · exact h1.new t ht
  · exact h2.new t ht
  · exact h3.new t ht
theorem Tri.low {w0 w : World} {T : List Nat} {x y z : Nat} {A B C : MS} (h : Tri w0 w T x y z A B C) : ∀ t, t ∈ T → t < w.heap.size := by
  obtain ⟨P, Q, R, rfl, h1, h2, h3, _⟩ := h
  intro t ht
  simp only [List.mem_append] at ht
  rcases ht with ht | ht | ht
  · exact h1.low t ht
  · exact h2.low t ht
  · exact h3.low t ht
theorem Tri.kp {w0 w w' : World} {T : List Nat} {x y z : Nat} {A B C : MS} (h : Tri w0 w T x y z A B C) (k : Kp w w') : Tri w0 w' T x y z A B C := by
  obtain ⟨P, Q, R, rfl, h1, h2, h3, h4⟩ := h
  exact ⟨P, Q, R, rfl, h1.kp k, h2.kp k, h3.kp k, h4⟩
/-- from W on, in turn. -/
def Tx (w0 W : World) (T : List Nat) (x y z : Nat) (A B C : MS) (w' : World) : Prop := ∃ T', Tri w0 w' T' x y z A B C ∧ Sp T W w' ∧ Nw W T T'
theorem Tx.kp {w0 W w' w'' : World} {T : List Nat} {x y z : Nat} {A B C : MS} (h : Tx w0 W T x y z A B C w') (k : Kp w' w'') : Tx w0 W T x y z A B C w'' := by
  obtain ⟨T', h1, h2, h3⟩ := h
  exact ⟨T', h1.kp k, h2.trans (k.sp _), h3⟩
theorem Tx.refl {w0 W : World} {T : List Nat} {x y z : Nat} {A B C : MS} (h : Tri w0 W T x y z A B C) : Tx w0 W T x y z A B C W := ⟨T, h, Sp.refl _ _, Nw.refl _ _⟩
theorem Tx.below {w0 W w' : World} {T : List Nat} {x y z : Nat} {A B C : MS} (h : Tx w0 W T x y z A B C w') (K : Kp w0 W) (hT : ∀ t, t ∈ T → w0.heap.size ≤ t) : Kp w0 w' := by
  obtain ⟨T', h1, h2, h3⟩ := h
  exact Sp.kp K h2 hT
theorem Tx.held {w0 W w' : World} {T : List Nat} {x y z : Nat} {A B C : MS} (h : Tx w0 W T x y z A B C w') {b o : Nat} {v : Value} (hc : W.cell? ⟨b, o, none⟩ = some v) (hb : b ∉ T) : w'.cell? ⟨b, o, none⟩ = some v := by
  obtain ⟨T', h1, h2, h3⟩ := h
  exact h2.held hc hb
theorem Tx.trans {w0 W W' w' : World} {T T' : List Nat} {x' y' z' : Nat} {A' B' C' : MS} (h2 : Sp T W W') (h3 : Nw W T T') (h : Tx w0 W' T' x' y' z' A' B' C' w') : Tx w0 W T x' y' z' A' B' C' w' := by
  obtain ⟨T2, q1, q2, q3⟩ := h
  exact ⟨T2, q1, h2.then q2 h3, h3.trans q3 h2.size⟩
theorem mem3 {P P' Q R : List Nat} {w : World} (h : Nw w P P') : Nw w (P ++ (Q ++ R)) (P' ++ (Q ++ R)) := fun t ht => by
  rcases List.mem_append.1 ht with h1 | h1
  · rcases h t h1 with h2 | h2
    · exact .inl (List.mem_append_left _ h2)
    · exact .inr h2
  · exact .inl (List.mem_append_right _ h1)
/-- a call on the first one. -/
theorem Tx.first {w0 W w' : World} {T : List Nat} {x y z : Nat} {A B C : MS} (K : Kp w0 W) (hT : ∀ t, t ∈ T → w0.heap.size ≤ t) (h : Tx w0 W T x y z A B C w') {F : FuncId} {args : Array Value} {E : Ending → Prop} {A' : MS}
    (hc : ∀ P, Ow w0 w' x P A → Kp w0 w' → Calls Tryz.prog F args w' fun e w'' => E e ∧ Nx w0 w' w'' x P A') : Calls Tryz.prog F args w' fun e w'' => E e ∧ Tx w0 W T x y z A' B C w'' := by
  have K' := h.below K hT
  obtain ⟨T', ⟨P, Q, R, rfl, h1, h2, h3, d1, d2, d3⟩, q2, q3⟩ := h
  refine (hc P h1 K').mono fun e w'' ⟨he, P', p1, p2, p3⟩ => ⟨he, ?_⟩
  obtain ⟨u1, u2⟩ := Nx.keep p2 p3 h2 d1.symm (b := x) (S := A')
  obtain ⟨v1, v2⟩ := Nx.keep p2 p3 h3 d2.symm (b := x) (S := A')
  refine ⟨P' ++ (Q ++ R), ⟨P', Q, R, rfl, p1, u1, v1, u2.symm, v2.symm, d3⟩, q2.then (p2.mono fun t ht => List.mem_append_left _ ht) q3, q3.trans (mem3 p3) q2.size⟩
theorem Tri.rot {w0 w : World} {T : List Nat} {x y z : Nat} {A B C : MS} (h : Tri w0 w T x y z A B C) : ∃ T', Tri w0 w T' y z x B C A ∧ ∀ t, t ∈ T ↔ t ∈ T' := by
  obtain ⟨P, Q, R, rfl, h1, h2, h3, d1, d2, d3⟩ := h
  refine ⟨Q ++ (R ++ P), ⟨Q, R, P, rfl, h2, h3, h1, d3, d1.symm, d2.symm⟩, fun t => ?_⟩
  simp only [List.mem_append]
  constructor
  · rintro (h | h | h)
    · exact .inr (.inr h)
    · exact .inl h
    · exact .inr (.inl h)
  · rintro (h | h | h)
    · exact .inr (.inl h)
    · exact .inr (.inr h)
    · exact .inl h
theorem Tx.turn {w0 W w' : World} {T : List Nat} {x y z : Nat} {A B C : MS} (h : Tx w0 W T x y z A B C w') : Tx w0 W T y z x B C A w' := by
  obtain ⟨T', h1, h2, h3⟩ := h
  obtain ⟨T2, q1, q2⟩ := h1.rot
  exact ⟨T2, q1, h2, fun t ht => h3 t ((q2 t).2 ht)⟩
theorem Tx.second {w0 W w' : World} {T : List Nat} {x y z : Nat} {A B C : MS} (K : Kp w0 W) (hT : ∀ t, t ∈ T → w0.heap.size ≤ t) (h : Tx w0 W T x y z A B C w') {F : FuncId} {args : Array Value} {E : Ending → Prop} {B' : MS}
    (hc : ∀ P, Ow w0 w' y P B → Kp w0 w' → Calls Tryz.prog F args w' fun e w'' => E e ∧ Nx w0 w' w'' y P B') : Calls Tryz.prog F args w' fun e w'' => E e ∧ Tx w0 W T x y z A B' C w'' :=
  (Tx.first K hT h.turn hc).mono fun e w'' ⟨he, h'⟩ => ⟨he, h'.turn.turn⟩
theorem Tri.sp {w0 w w' : World} {T : List Nat} {x y z : Nat} {A B C : MS} (h : Tri w0 w T x y z A B C) {T' : List Nat} (k : Sp T' w w') (hd : Dj T T') : Tri w0 w' T x y z A B C := by
  obtain ⟨P, Q, R, rfl, h1, h2, h3, h4⟩ := h
  exact ⟨P, Q, R, rfl, h1.sp k (fun t ht => hd t (List.mem_append_left _ ht)), h2.sp k (fun t ht => hd t (List.mem_append_right _ (List.mem_append_left _ ht))), h3.sp k (fun t ht => hd t (List.mem_append_right _ (List.mem_append_right _ ht))), h4⟩
/-- a call on the first one, its blocks among all. -/
theorem Tri.call {w0 w : World} {T : List Nat} {x y z : Nat} {A B C : MS} (h : Tri w0 w T x y z A B C) {F : FuncId} {args : Array Value} {E : Ending → Prop} {A' : MS}
    (hc : ∀ P, (∀ t, t ∈ P → t ∈ T) → Ow w0 w x P A → Calls Tryz.prog F args w fun e w'' => E e ∧ Nx w0 w w'' x P A') : Calls Tryz.prog F args w fun e w'' => E e ∧ Tx w0 w T x y z A' B C w'' := by
  obtain ⟨P, Q, R, rfl, h1, h2, h3, d1, d2, d3⟩ := h
  refine (hc P (fun t ht => List.mem_append_left _ ht) h1).mono fun e w'' ⟨he, P', p1, p2, p3⟩ => ⟨he, ?_⟩
  obtain ⟨u1, u2⟩ := Nx.keep p2 p3 h2 d1.symm (b := x) (S := A')
  obtain ⟨v1, v2⟩ := Nx.keep p2 p3 h3 d2.symm (b := x) (S := A')
  exact ⟨P' ++ (Q ++ R), ⟨P', Q, R, rfl, p1, u1, v1, u2.symm, v2.symm, d3⟩, p2.mono (fun t ht => List.mem_append_left _ ht), mem3 p3⟩
theorem Tx.same {w0 W w' : World} {T T' : List Nat} {x y z : Nat} {A B C : MS} (h : Tx w0 W T x y z A B C w') (e : ∀ t, t ∈ T ↔ t ∈ T') : Tx w0 W T' x y z A B C w' := by
  obtain ⟨T2, q1, q2, q3⟩ := h
  exact ⟨T2, q1, q2.mono (fun t ht => (e t).1 ht), fun t ht => (q3 t ht).imp (e t).1 id⟩
/-- alike but for the counts. -/
structure Alk (S S' : MS) : Prop where
  now : S.now = S'.now
  las : S.las = S'.las
  row : S.row = S'.row
  dead : S.dead = S'.dead
theorem Alk.refl (S : MS) : Alk S S := ⟨rfl, rfl, rfl, rfl⟩
theorem Alk.rd {S S' : MS} (h : Alk S S') (k : Int) : Alk (rd S k) S' := by
  unfold Go.Proofs.YtonooelffokfkaaGreatDoor.rd
  split
  · exact ⟨h.now, h.las, h.row, h.dead⟩
  · exact h
theorem rc_in {S : MS} {i : Nat} (hd : S.dead = false) (hi : i < S.las.length) : rcE S (i : Int) = 0 := by
  unfold rcE
  rw [hd, if_neg (by simp), if_pos ⟨by omega, by omega⟩]
theorem rd_in {S : MS} {i : Nat} (hd : S.dead = false) (hi : i < S.las.length) : rdS S (i : Int) = S.now.getD i noS := by
  unfold rdS
  rw [if_pos (rc_in hd hi), Int.toNat_natCast]
/-- sixteen texts in a block, the first k of them told. -/
structure Ar (w : World) (A k : Nat) (f : Nat → ByteArray) : Prop where
  c : ∀ j, j < k → w.cell? ⟨A, j, none⟩ = some (.string (f j))
  t : w.there A 0 16
theorem Ar.sp {w w' : World} {A k : Nat} {f : Nat → ByteArray} (h : Ar w A k f) {T : List Nat} (q : Sp T w w') (hA : A ∉ T) : Ar w' A k f := ⟨fun j hj => q.held (h.c j hj) hA, q.there h.t hA⟩
theorem Ar.set {w : World} {A k : Nat} {f : Nat → ByteArray} (h : Ar w A k f) (hk : k < 16) : Ar (w.setCell ⟨A, k, none⟩ (.string (f k))) A (k + 1) f := by
  refine ⟨fun j hj => ?_, fun j hj => ?_⟩
  · by_cases e : j = k
    · subst e
      obtain ⟨v, hv⟩ := Option.isSome_iff_exists.1 (h.t j hk).1
      rw [Nat.zero_add] at hv
      exact World.cell?_setCell_same _ _ _ hv
    · rw [cell_off _ _ _ _ _ e]; exact h.c j (by omega)
  · obtain ⟨h1, h2⟩ := h.t j hj
    refine ⟨?_, (World.frozen?_setCell _ _ _ _).trans h2⟩
    by_cases e : 0 + j = k
    · obtain ⟨v, hv⟩ := Option.isSome_iff_exists.1 h1
      rw [e] at hv ⊢
      rw [World.cell?_setCell_same _ _ _ hv]; rfl
    · rw [cell_off _ _ _ _ _ e]; exact h1
theorem Ar.at {w : World} {A k : Nat} {f : Nat → ByteArray} (h : Ar w A k f) (i : Nat) (hi : i < 16) : ∃ v, w.cell? ⟨A, i, none⟩ = some v ∧ w.frozen? ⟨A, i, none⟩ = false := by
  obtain ⟨h1, h2⟩ := h.t i hi
  rw [Nat.zero_add] at h1 h2
  obtain ⟨v, hv⟩ := Option.isSome_iff_exists.1 h1
  exact ⟨v, hv, h2⟩
theorem Nw.not {w : World} {T T' : List Nat} (h : Nw w T T') {A : Nat} (hA : A ∉ T) (hl : A < w.heap.size) : A ∉ T' := fun hm => by
  rcases h A hm with h1 | h1
  · exact hA h1
  · omega

end Go.Proofs.YtonooelffokfkaaGreatDoor
