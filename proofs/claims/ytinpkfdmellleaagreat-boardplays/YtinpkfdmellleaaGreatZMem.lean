/-
  A member (layer 10): its state in memory, and its calls. Conditions: that it lies in memory.
-/
import Derived.Test.YtinpkfdmellleaaGreatZBase
import Derived.Test.YtinpkfdmellleaaGreatProg
import Derived.Conc.RwLoneW
import Derived.KernelRfl
import Derived.Deep.MidRow
import Derived.Laws.BytesArg
import Derived.Laws.AppendOwnNone
import Derived.Maps.AppendAt
import Derived.Deep.OwnRows
import Derived.Test.YtinpkfdmellleaaGreatRows
import Derived.Deep.RegionHeld3
import Derived.Defers
import Derived.WalkKit
import Derived.Laws.OwnMore
import Derived.Deep.RegionLaw
import Derived.Great.BuildSlice
import Derived.Great.FillDense
import Derived.Deep.SlicePairs
import Derived.Deep.Quiet
import Derived.BigQuiet
namespace Go.Proofs.YtinpkfdmellleaaGreat
open Go.Conc.Locks
abbrev muLink : MuLink := { lock := 95, unlock := 104, ilock := 134, iunlock := 136, lockSlow := 153, unlockSlow := 154, disable := 94, enable := 98, acquire := 99, relMerge := 101, cas32 := 152, add32 := 135, tMutex := 123, tIMutex := 121, tPMutex := 169, tPIMutex := 219, tPI32 := 204, tUP := 168, tNoCopy := 119, tU32 := 100 }
theorem muLib : MuLib Tryz.prog muLink :=
  ⟨Tryz.func95, Tryz.func104, Tryz.func134, Tryz.func136, Tryz.func94, Tryz.func98, Tryz.func99, Tryz.func101, Tryz.func152, Tryz.func135, Tryz.underlying121, Tryz.runUnderlying121, Tryz.sizeOf121, Tryz.isAgg121, Tryz.zeroValue121, Tryz.underlying123, Tryz.runUnderlying123, Tryz.sizeOf123, Tryz.isAgg123, Tryz.zeroValue123, Tryz.underlying169, Tryz.runUnderlying169, Tryz.sizeOf169, Tryz.isAgg169, Tryz.zeroValue169, Tryz.underlying219, Tryz.runUnderlying219, Tryz.sizeOf219, Tryz.isAgg219, Tryz.zeroValue219, Tryz.underlying204, Tryz.runUnderlying204, Tryz.sizeOf204, Tryz.isAgg204, Tryz.zeroValue204, Tryz.underlying168, Tryz.runUnderlying168, Tryz.sizeOf168, Tryz.isAgg168, Tryz.zeroValue168, Tryz.underlying119, Tryz.runUnderlying119, Tryz.sizeOf119, Tryz.isAgg119, Tryz.zeroValue119, Tryz.underlying21, Tryz.runUnderlying21, Tryz.sizeOf21, Tryz.isAgg21, Tryz.zeroValue21, (by kernel_rfl)⟩
abbrev rwLink : RwLink := { lock := 95, unlock := 104, ilock := 134, iunlock := 136, lockSlow := 153, unlockSlow := 154, disable := 94, enable := 98, acquire := 99, relMerge := 101, cas32 := 152, add32 := 135, tMutex := 123, tIMutex := 121, tPMutex := 169, tPIMutex := 219, tPI32 := 204, tUP := 168, tNoCopy := 119, tU32 := 100, rlock := 75, runlock := 76, wlock := 54, wunlock := 55, i32add := 96, raceRead := 93, release := 100, rUnlockSlow := 125, semacqR := 124, semacqW := 97, semrel := 103, sfatal := 102, tRW := 127, tPRW := 166, tAI32 := 125, tPAI32 := 202, tPU32 := 172, tANoCopy := 99 }
theorem rwCore : RwCore Tryz.prog rwLink :=
  ⟨Tryz.func96, Tryz.func93, Tryz.func94, Tryz.func98, Tryz.func99, Tryz.func101, Tryz.func135, Tryz.underlying127, Tryz.runUnderlying127, Tryz.sizeOf127, Tryz.isAgg127, Tryz.zeroValue127, Tryz.underlying125, Tryz.runUnderlying125, Tryz.sizeOf125, Tryz.isAgg125, Tryz.zeroValue125, Tryz.underlying166, Tryz.runUnderlying166, Tryz.sizeOf166, Tryz.isAgg166, Tryz.zeroValue166, Tryz.underlying202, Tryz.runUnderlying202, Tryz.sizeOf202, Tryz.isAgg202, Tryz.zeroValue202, Tryz.underlying172, Tryz.runUnderlying172, Tryz.sizeOf172, Tryz.isAgg172, Tryz.zeroValue172, Tryz.underlying99, Tryz.runUnderlying99, Tryz.sizeOf99, Tryz.isAgg99, Tryz.zeroValue99, Tryz.underlying100, Tryz.runUnderlying100, Tryz.sizeOf100, Tryz.isAgg100, Tryz.zeroValue100, Tryz.underlying123, Tryz.runUnderlying123, Tryz.sizeOf123, Tryz.isAgg123, Tryz.zeroValue123, Tryz.underlying169, Tryz.runUnderlying169, Tryz.sizeOf169, Tryz.isAgg169, Tryz.zeroValue169, Tryz.underlying204, Tryz.runUnderlying204, Tryz.sizeOf204, Tryz.isAgg204, Tryz.zeroValue204, Tryz.underlying168, Tryz.runUnderlying168, Tryz.sizeOf168, Tryz.isAgg168, Tryz.zeroValue168, Tryz.underlying21, Tryz.runUnderlying21, Tryz.sizeOf21, Tryz.isAgg21, Tryz.zeroValue21, (by kernel_rfl), (by kernel_rfl)⟩
theorem rwRLib : RwRLib Tryz.prog rwLink := ⟨rwCore, Tryz.func75, Tryz.func76⟩
theorem rwWLib : RwWLib Tryz.prog rwLink := ⟨rwCore, muLib, Tryz.func54, Tryz.func55, Tryz.func100, Tryz.underlying3, Tryz.runUnderlying3, Tryz.sizeOf3, Tryz.isAgg3, Tryz.zeroValue3⟩
end Go.Proofs.YtinpkfdmellleaaGreat

namespace Go.Proofs.YtinpkfdmellleaaGreat
open Go.RowKit Plain

/-- a sector of noughts. -/
def z64 : ByteArray := bs 64 (fun _ => 0)
theorem z64_size : z64.size = 64 := bs_size _ _

structure MS where
  now : List ByteArray
  las : List ByteArray
  row : List (Nat × ByteArray)
  dead : Bool
  c : Nat → Int

/-- sectors behind writes. -/
def pl : List ByteArray → List (Nat × ByteArray) → List ByteArray
  | l, [] => l
  | l, p :: r => pl (l.set p.1 p.2) r
theorem pl_len : ∀ (r : List (Nat × ByteArray)) (l : List ByteArray), (pl l r).length = l.length
  | [], _ => rfl
  | p :: r, l => by simp only [pl, pl_len r, List.length_set]
theorem pl_app : ∀ (r q : List (Nat × ByteArray)) (l : List ByteArray), pl l (r ++ q) = pl (pl l r) q
  | [], _, _ => rfl
  | p :: r, q, l => by simp only [pl, List.cons_append, pl_app r q]
theorem pl_one (r : List (Nat × ByteArray)) (p : Nat × ByteArray) (l : List ByteArray) : pl l (r ++ [p]) = (pl l r).set p.1 p.2 := by rw [pl_app]; rfl
/-- writes kept by their place and what they are. -/
def tk (f : Nat → (Nat × ByteArray) → Bool) : Nat → List (Nat × ByteArray) → List (Nat × ByteArray)
  | _, [] => []
  | k, p :: r => if f k p then p :: tk f (k + 1) r else tk f (k + 1) r
theorem tk_app (f : Nat → (Nat × ByteArray) → Bool) : ∀ (r : List (Nat × ByteArray)) (k : Nat) (p : Nat × ByteArray), tk f k (r ++ [p]) = if f (k + r.length) p then tk f k r ++ [p] else tk f k r
  | [], k, p => by simp only [List.nil_append, tk, List.length_nil, Nat.add_zero]
  | q :: r, k, p => by
    simp only [List.cons_append, tk, tk_app f r (k + 1) p, List.length_cons, show k + 1 + r.length = k + (r.length + 1) by omega]
    split <;> split <;> rfl
theorem tk_len (f : Nat → (Nat × ByteArray) → Bool) : ∀ (r : List (Nat × ByteArray)) (k : Nat), (tk f k r).length ≤ r.length
  | [], _ => Nat.le_refl _
  | p :: r, k => by
    have := tk_len f r (k + 1)
    simp only [tk]
    split <;> simp only [List.length_cons] <;> omega
theorem tk_mem (f : Nat → (Nat × ByteArray) → Bool) : ∀ (r : List (Nat × ByteArray)) (k : Nat), ∀ p ∈ tk f k r, p ∈ r
  | [], _, p, h => h
  | q :: r, k, p, h => by
    simp only [tk] at h
    split at h
    · rcases List.mem_cons.1 h with rfl | h
      · exact List.mem_cons_self
      · exact List.mem_cons_of_mem _ (tk_mem f r (k + 1) p h)
    · exact List.mem_cons_of_mem _ (tk_mem f r (k + 1) p h)
theorem tk_take (f : Nat → (Nat × ByteArray) → Bool) (r : List (Nat × ByteArray)) (k : Nat) (h : k < r.length) : tk f 0 (r.take (k + 1)) = if f k (r.getD k (0, noS)) then tk f 0 (r.take k) ++ [r.getD k (0, noS)] else tk f 0 (r.take k) := by
  have e : r.take (k + 1) = r.take k ++ [r.getD k (0, noS)] := by
    rw [List.take_add_one, List.getElem?_eq_getElem h, List.getD_eq_getElem?_getD, List.getElem?_eq_getElem h]
    rfl
  rw [e, tk_app, List.length_take, Nat.zero_add, Nat.min_eq_left (by omega)]
theorem pl_take (l : List ByteArray) (r : List (Nat × ByteArray)) (k : Nat) (h : k < r.length) : pl l (r.take (k + 1)) = (pl l (r.take k)).set (r.getD k (0, noS)).1 (r.getD k (0, noS)).2 := by
  have e : r.take (k + 1) = r.take k ++ [r.getD k (0, noS)] := by
    rw [List.take_add_one, List.getElem?_eq_getElem h, List.getD_eq_getElem?_getD, List.getElem?_eq_getElem h]
    rfl
  rw [e, pl_one]

structure Fine (S : MS) : Prop where
  n1 : 1 ≤ S.las.length
  n2 : S.las.length ≤ 256
  nn : S.now.length = S.las.length
  bn : ∀ s ∈ S.now, s.size = 64
  bl : ∀ s ∈ S.las, s.size = 64
  br : ∀ p ∈ S.row, p.1 < S.las.length ∧ p.2.size = 64
/-- what a member has is what lasts and the writes behind it. -/
structure Right (S : MS) : Prop where
  live : S.dead = false → S.now = pl S.las S.row
  gone : S.dead = true → S.row = []
theorem set_all {l : List ByteArray} (h : ∀ s ∈ l, s.size = 64) (i : Nat) (t : ByteArray) (ht : t.size = 64) : ∀ s ∈ l.set i t, s.size = 64 := by
  intro s hs
  rcases List.mem_or_eq_of_mem_set hs with h1 | rfl
  · exact h s h1
  · exact ht
theorem pl_all : ∀ (r : List (Nat × ByteArray)) (l : List ByteArray), (∀ s ∈ l, s.size = 64) → (∀ p ∈ r, p.2.size = 64) → ∀ s ∈ pl l r, s.size = 64
  | [], _, h, _ => h
  | p :: r, l, h, hr => by
    simp only [pl]
    exact pl_all r _ (set_all h _ _ (hr p List.mem_cons_self)) (fun q hq => hr q (List.mem_cons_of_mem _ hq))

/-- one more. -/
def up (c : Nat → Int) (j : Nat) : Nat → Int := fun i => if i = j then wrap64 (c j + 1) else c i
/-- why a sector can't be had. -/
def rcE (S : MS) (k : Int) : Int := if S.dead then 22 else if 0 ≤ k ∧ k < S.las.length then 0 else 3
def wrE (S : MS) (k : Int) (s : ByteArray) : Int := if rcE S k = 0 then (if s.size = 64 then 0 else 4) else rcE S k
def wr (S : MS) (k : Int) (s : ByteArray) : MS := if wrE S k s = 0 then ⟨S.now.set k.toNat s, S.las, S.row ++ [(k.toNat, s)], S.dead, up S.c 1⟩ else S
def rdS (S : MS) (k : Int) : ByteArray := if rcE S k = 0 then S.now.getD k.toNat noS else ByteArray.empty
def rd (S : MS) (k : Int) : MS := if rcE S k = 0 then ⟨S.now, S.las, S.row, S.dead, up S.c 0⟩ else S
def flE (S : MS) : Int := if S.dead then 22 else 0
def fl (S : MS) : MS := if S.dead then S else ⟨S.now, pl S.las S.row, [], S.dead, up S.c 2⟩
def cr (S : MS) (f : Nat → Bool) : MS := ⟨pl S.las (tk (fun k _ => f k) 0 S.row), pl S.las (tk (fun k _ => f k) 0 S.row), [], S.dead, S.c⟩
def fa (S : MS) : MS := ⟨S.now, S.las, [], true, S.c⟩
def rp (S : MS) : MS := ⟨List.replicate S.las.length z64, List.replicate S.las.length z64, [], false, up S.c 3⟩
def rtB (S : MS) (k : Int) (s : ByteArray) : Bool := decide (rcE S k = 0) && decide (s.size = 64)
def nq (k : Int) : Nat → (Nat × ByteArray) → Bool := fun _ p => decide ((p.1 : Int) ≠ k)
def rt (S : MS) (k : Int) (s : ByteArray) : MS := if rtB S k s then ⟨S.now.set k.toNat s, S.las.set k.toNat s, tk (nq k) 0 S.row, S.dead, S.c⟩ else S
/-- a new one. -/
def nwN (n : Int) : Nat := (min (max n 1) 256).toNat
def nw (n : Nat) : MS := ⟨List.replicate n z64, List.replicate n z64, [], false, fun _ => 0⟩

theorem rc_ok {S : MS} {k : Int} (h : rcE S k = 0) : S.dead = false ∧ 0 ≤ k ∧ k < S.las.length := by
  unfold rcE at h
  cases hd : S.dead with
  | true => rw [hd] at h; simp at h
  | false =>
    rw [hd] at h
    by_cases h1 : 0 ≤ k ∧ k < S.las.length
    · exact ⟨rfl, h1⟩
    · rw [if_neg h1] at h; simp at h
theorem wr_ok {S : MS} {k : Int} {s : ByteArray} (h : wrE S k s = 0) : rcE S k = 0 ∧ s.size = 64 := by
  unfold wrE at h
  by_cases h1 : rcE S k = 0
  · rw [if_pos h1] at h
    by_cases h2 : s.size = 64
    · exact ⟨h1, h2⟩
    · rw [if_neg h2] at h; cases h
  · rw [if_neg h1] at h; exact absurd h h1
theorem rep_all (n : Nat) : ∀ s ∈ List.replicate n z64, s.size = 64 := by
  intro s hs
  rw [(List.mem_replicate.1 hs).2, z64_size]
theorem Fine.nw (n : Nat) (h1 : 1 ≤ n) (h2 : n ≤ 256) : Fine (nw n) := ⟨by simpa [Go.Proofs.YtinpkfdmellleaaGreat.nw] using h1, by simpa [Go.Proofs.YtinpkfdmellleaaGreat.nw] using h2, rfl, rep_all n, rep_all n, fun p hp => (by cases hp)⟩
theorem Fine.wr {S : MS} (h : Fine S) (k : Int) (s : ByteArray) : Fine (wr S k s) := by
  unfold Go.Proofs.YtinpkfdmellleaaGreat.wr
  split
  · rename_i hw
    obtain ⟨h1, h2⟩ := wr_ok hw
    obtain ⟨_, h3, h4⟩ := rc_ok h1
    refine ⟨h.n1, h.n2, by simpa using h.nn, set_all h.bn _ _ h2, h.bl, fun p hp => ?_⟩
    rcases List.mem_append.1 hp with h5 | h5
    · exact h.br p h5
    · rw [List.mem_singleton.1 h5]; exact ⟨by show k.toNat < S.las.length; omega, h2⟩
  · exact h
theorem Fine.rd {S : MS} (h : Fine S) (k : Int) : Fine (rd S k) := by
  unfold Go.Proofs.YtinpkfdmellleaaGreat.rd
  split
  · exact ⟨h.n1, h.n2, h.nn, h.bn, h.bl, h.br⟩
  · exact h
theorem Fine.fl {S : MS} (h : Fine S) : Fine (fl S) := by
  unfold Go.Proofs.YtinpkfdmellleaaGreat.fl
  split
  · exact h
  · exact ⟨by simpa [pl_len] using h.n1, by simpa [pl_len] using h.n2, by simpa [pl_len] using h.nn, h.bn, pl_all _ _ h.bl (fun p hp => (h.br p hp).2), fun p hp => (by cases hp)⟩
theorem Fine.cr {S : MS} (h : Fine S) (f : Nat → Bool) : Fine (cr S f) := by
  have ha := pl_all _ _ h.bl (fun p hp => (h.br p (tk_mem (fun k _ => f k) S.row 0 p hp)).2)
  exact ⟨by simpa [Go.Proofs.YtinpkfdmellleaaGreat.cr, pl_len] using h.n1, by simpa [Go.Proofs.YtinpkfdmellleaaGreat.cr, pl_len] using h.n2, rfl, ha, ha, fun p hp => (by cases hp)⟩
theorem Fine.fa {S : MS} (h : Fine S) : Fine (fa S) := ⟨h.n1, h.n2, h.nn, h.bn, h.bl, fun p hp => (by cases hp)⟩
theorem Fine.rp {S : MS} (h : Fine S) : Fine (rp S) := ⟨by simpa [Go.Proofs.YtinpkfdmellleaaGreat.rp] using h.n1, by simpa [Go.Proofs.YtinpkfdmellleaaGreat.rp] using h.n2, rfl, rep_all _, rep_all _, fun p hp => (by cases hp)⟩
theorem Fine.rt {S : MS} (h : Fine S) (k : Int) (s : ByteArray) : Fine (rt S k s) := by
  unfold Go.Proofs.YtinpkfdmellleaaGreat.rt
  split
  · rename_i hw
    unfold rtB at hw
    rw [Bool.and_eq_true, decide_eq_true_eq, decide_eq_true_eq] at hw
    refine ⟨by simpa using h.n1, by simpa using h.n2, by simpa using h.nn, set_all h.bn _ _ hw.2, set_all h.bl _ _ hw.2, fun p hp => ?_⟩
    have := h.br p (tk_mem (nq k) S.row 0 p hp)
    exact ⟨by simpa using this.1, this.2⟩
  · exact h
theorem Right.nw (n : Nat) : Right (nw n) := ⟨fun _ => rfl, fun h => (by cases h)⟩
theorem Right.wr {S : MS} (h : Right S) (k : Int) (s : ByteArray) : Right (wr S k s) := by
  unfold Go.Proofs.YtinpkfdmellleaaGreat.wr
  split
  · rename_i hw
    obtain ⟨h1, _⟩ := wr_ok hw
    obtain ⟨hd, _⟩ := rc_ok h1
    refine ⟨fun _ => ?_, fun hx => ?_⟩
    · show S.now.set k.toNat s = pl S.las (S.row ++ [(k.toNat, s)])
      rw [pl_one, h.live hd]
    · have : S.dead = true := hx
      rw [hd] at this; cases this
  · exact h
theorem Right.rd {S : MS} (h : Right S) (k : Int) : Right (rd S k) := by
  unfold Go.Proofs.YtinpkfdmellleaaGreat.rd
  split
  · exact ⟨h.live, h.gone⟩
  · exact h
theorem Right.fl {S : MS} (h : Right S) : Right (fl S) := by
  unfold Go.Proofs.YtinpkfdmellleaaGreat.fl
  split
  · exact h
  · exact ⟨fun hd => h.live hd, fun _ => rfl⟩
theorem Right.cr {S : MS} (f : Nat → Bool) : Right (cr S f) := ⟨fun _ => rfl, fun _ => rfl⟩
theorem Right.fa {S : MS} : Right (fa S) := ⟨fun h => (by cases h), fun _ => rfl⟩
theorem Right.rp {S : MS} : Right (rp S) := ⟨fun _ => rfl, fun _ => rfl⟩
theorem pl_set_out : ∀ (r : List (Nat × ByteArray)) (l : List ByteArray) (i : Nat) (s : ByteArray), (∀ p ∈ r, p.1 ≠ i) → pl (l.set i s) r = (pl l r).set i s
  | [], _, _, _, _ => rfl
  | p :: r, l, i, s, h => by
    simp only [pl]
    rw [List.set_comm _ _ (fun e => h p List.mem_cons_self e.symm), pl_set_out r _ i s (fun q hq => h q (List.mem_cons_of_mem _ hq))]
theorem pl_rot : ∀ (r : List (Nat × ByteArray)) (j : Nat) (l : List ByteArray) (i : Nat) (s : ByteArray), pl (l.set i s) (tk (nq (i : Int)) j r) = (pl l r).set i s
  | [], _, _, _, _ => rfl
  | p :: r, j, l, i, s => by
    simp only [tk]
    by_cases e : p.1 = i
    · rw [if_neg (show ¬ nq (i : Int) j p = true by simp [nq, e])]
      simp only [pl]
      have := pl_rot r (j + 1) (l.set p.1 p.2) i s
      rw [e, List.set_set] at this
      rw [e]; exact this
    · rw [if_pos (show nq (i : Int) j p = true by simp [nq]; omega)]
      simp only [pl]
      rw [List.set_comm _ _ (fun e' => e e'.symm)]
      exact pl_rot r (j + 1) _ i s
theorem Right.rt {S : MS} (h : Right S) (k : Int) (s : ByteArray) : Right (rt S k s) := by
  unfold Go.Proofs.YtinpkfdmellleaaGreat.rt
  split
  · rename_i hw
    unfold rtB at hw
    rw [Bool.and_eq_true, decide_eq_true_eq, decide_eq_true_eq] at hw
    obtain ⟨hd, h0, _⟩ := rc_ok hw.1
    refine ⟨fun _ => ?_, fun hx => ?_⟩
    · show S.now.set k.toNat s = pl (S.las.set k.toNat s) (tk (nq k) 0 S.row)
      have := pl_rot S.row 0 S.las k.toNat s
      rw [show ((k.toNat : Nat) : Int) = k by omega] at this
      rw [this, h.live hd]
    · have : S.dead = true := hx
      rw [hd] at this; cases this
  · exact h

end Go.Proofs.YtinpkfdmellleaaGreat

namespace Go.Proofs.YtinpkfdmellleaaGreat
open Go.RowKit Plain

/-- w' is w with whatever is new behind it, and with stores into the blocks of T. -/
structure Sp (T : List Nat) (w w' : World) : Prop where
  os : w'.os = w.os
  tape : w'.tape = w.tape
  output : w'.output = w.output
  size : w.heap.size ≤ w'.heap.size
  block : ∀ k, k < w.heap.size → k ∉ T → w'.heap[k]? = w.heap[k]?
theorem Sp.refl (T : List Nat) (w : World) : Sp T w w := ⟨rfl, rfl, rfl, Nat.le_refl _, fun _ _ _ => rfl⟩
theorem Sp.trans {T : List Nat} {a b c : World} (h : Sp T a b) (k : Sp T b c) : Sp T a c :=
  ⟨k.os.trans h.os, k.tape.trans h.tape, k.output.trans h.output, Nat.le_trans h.size k.size, fun i hi hn => (k.block i (Nat.lt_of_lt_of_le hi h.size) hn).trans (h.block i hi hn)⟩
theorem Sp.mono {T T' : List Nat} {a b : World} (h : Sp T a b) (hs : ∀ t, t ∈ T → t ∈ T') : Sp T' a b :=
  ⟨h.os, h.tape, h.output, h.size, fun i hi hn => h.block i hi (fun ht => hn (hs i ht))⟩
theorem Kp.sp {a b : World} (h : Kp a b) (T : List Nat) : Sp T a b := ⟨h.os, h.tape, h.output, h.size, fun i hi _ => h.block i hi⟩
theorem Sp.set {T : List Nat} {a b : World} (h : Sp T a b) (B i : Nat) (hB : B ∈ T) (v : Value) : Sp T a (b.setCell ⟨B, i, none⟩ v) :=
  h.trans ⟨rfl, rfl, rfl, by simp [World.setCell], fun k _ hk => Below.heap_setCell _ _ _ _ (fun e => hk (by rw [e]; exact hB))⟩
theorem Sp.setCells {T : List Nat} {a : World} (B : Nat) (hB : B ∈ T) : ∀ (vs : List Value) (o : Nat) (b : World), Sp T a b → Sp T a (b.setCells B o vs)
  | [], _, _, h => h
  | v :: r, o, b, h => by
    rw [World.setCells]
    exact Sp.setCells B hB r (o + 1) _ (h.set B o hB v)
/-- the blocks of T' are those of T, or new. -/
def Nw (w : World) (T T' : List Nat) : Prop := ∀ t, t ∈ T' → t ∈ T ∨ w.heap.size ≤ t
theorem Nw.refl (w : World) (T : List Nat) : Nw w T T := fun _ h => .inl h
theorem Nw.trans {w w' : World} {T T' T'' : List Nat} (h : Nw w T T') (k : Nw w' T' T'') (hs : w.heap.size ≤ w'.heap.size) : Nw w T T'' := fun t ht => by
  rcases k t ht with h1 | h1
  · exact h t h1
  · exact .inr (Nat.le_trans hs h1)
/-- two steps, the second at blocks that the first one left. -/
theorem Sp.then {T T' : List Nat} {a b c : World} (h : Sp T a b) (k : Sp T' b c) (hn : Nw a T T') : Sp T a c :=
  ⟨k.os.trans h.os, k.tape.trans h.tape, k.output.trans h.output, Nat.le_trans h.size k.size, fun i hi hT => (k.block i (Nat.lt_of_lt_of_le hi h.size) (fun ht => by
    rcases hn i ht with h1 | h1
    · exact hT h1
    · omega)).trans (h.block i hi hT)⟩
theorem Sp.kp {T : List Nat} {w0 w w' : World} (h0 : Kp w0 w) (h : Sp T w w') (hT : ∀ t, t ∈ T → w0.heap.size ≤ t) : Kp w0 w' :=
  ⟨h.os.trans h0.os, h.tape.trans h0.tape, h.output.trans h0.output, Nat.le_trans h0.size h.size, fun k hk => (h.block k (Nat.lt_of_lt_of_le hk h0.size) (fun ht => by have := hT k ht; omega)).trans (h0.block k hk)⟩
theorem Sp.cell {T : List Nat} {w w' : World} (h : Sp T w w') {b : Nat} (hb : b < w.heap.size) (hn : b ∉ T) (o : Nat) : w'.cell? ⟨b, o, none⟩ = w.cell? ⟨b, o, none⟩ := World.cell?_of_block (w := w) (a := ⟨b, o, none⟩) (h.block b hb hn)
theorem Sp.frozen {T : List Nat} {w w' : World} (h : Sp T w w') {b : Nat} (hb : b < w.heap.size) (hn : b ∉ T) (o : Nat) : w'.frozen? ⟨b, o, none⟩ = w.frozen? ⟨b, o, none⟩ := World.frozen?_of_block (w := w) (a := ⟨b, o, none⟩) (h.block b hb hn)
theorem Sp.held {T : List Nat} {w w' : World} (h : Sp T w w') {b o : Nat} {v : Value} (hc : w.cell? ⟨b, o, none⟩ = some v) (hn : b ∉ T) : w'.cell? ⟨b, o, none⟩ = some v := (h.cell (World.block_lt_of_cell? w _ hc) hn o).trans hc
theorem Sp.range {T : List Nat} {w w' : World} (h : Sp T w w') {b o : Nat} {cs : List Value} (hc : w.rangeAt b o cs) (hn : b ∉ T) : w'.rangeAt b o cs := fun j v hv => h.held (hc j v hv) hn
theorem Sp.there {T : List Nat} {w w' : World} (h : Sp T w w') {b o n : Nat} (hc : w.there b o n) (hn : b ∉ T) : w'.there b o n := fun j hj => by
  obtain ⟨h1, h2⟩ := hc j hj
  obtain ⟨v, hv⟩ := Option.isSome_iff_exists.1 h1
  have hb := World.block_lt_of_cell? w _ hv
  exact ⟨by rw [h.held hv hn]; rfl, (h.frozen hb hn _).trans h2⟩
theorem Sp.own {T : List Nat} {w w' : World} (h : Sp T w w') {base : Nat} {e : TypeId} {size : Nat} {v : Value} {n : Nat} {xs : List Value} (ho : w.ownsRow base e size v n xs) (hn : ∀ g, v.ownBlock = some g → g ∉ T) : w'.ownsRow base e size v n xs := by
  rcases ho.2 with ⟨h', h0⟩ | ⟨g, cap, cur, h', hb, hg, hr⟩
  · exact ⟨ho.1, .inl ⟨h', h0⟩⟩
  · refine ⟨ho.1, .inr ⟨g, cap, cur, h', hb, (h.block g (Array.getElem?_eq_some_iff.1 hg).1 (hn g (by rw [h']; rfl))).trans hg, hr⟩⟩
theorem cell_off (w : World) (b i j : Nat) (v : Value) (h : j ≠ i) : (w.setCell ⟨b, i, none⟩ v).cell? ⟨b, j, none⟩ = w.cell? ⟨b, j, none⟩ := World.cell?_setCell_other _ _ _ _ (by intro e; cases e; exact h rfl)

/-! ### sectors -/
theorem bc_len (s : ByteArray) : (byteCells s).length = s.size := byteCells_length s
theorem bc_one (s : ByteArray) : ∀ v ∈ byteCells s, v.oneCell' = true := by
  intro v hv
  obtain ⟨b, _, rfl⟩ := List.mem_map.1 hv
  rfl
theorem getD_mem {L : List ByteArray} {i : Nat} (h : i < L.length) : L.getD i noS ∈ L := mem_of_at L i h
theorem getD_set_eq {α : Type} {L : List α} {i : Nat} (h : i < L.length) (t d : α) : (L.set i t).getD i d = t := by
  rw [List.getD_eq_getElem?_getD, List.getElem?_set_self h]; rfl
theorem getD_set_ne {α : Type} {L : List α} {i j : Nat} (h : i ≠ j) (t d : α) : (L.set i t).getD j d = L.getD j d := by
  rw [List.getD_eq_getElem?_getD, List.getElem?_set_ne h, ← List.getD_eq_getElem?_getD]
structure SecIn (w : World) (g : Nat) (L : List ByteArray) : Prop where
  c : ∀ i, i < L.length → w.rangeAt g (i * 64) (byteCells (L.getD i noS))
  t : w.there g 0 (L.length * 64)
  z : ∀ s ∈ L, s.size = 64
theorem SecIn.sz {w : World} {g : Nat} {L : List ByteArray} (h : SecIn w g L) {i : Nat} (hi : i < L.length) : (byteCells (L.getD i noS)).length = 64 := by rw [bc_len]; exact h.z _ (getD_mem hi)
theorem SecIn.at {w : World} {g : Nat} {L : List ByteArray} (h : SecIn w g L) {i : Nat} (hi : i < L.length) : w.there g (i * 64) 64 := fun j hj => by
  have := h.t (i * 64 + j) (by omega)
  rwa [Nat.zero_add] at this
theorem SecIn.sp {w w' : World} {g : Nat} {L : List ByteArray} (h : SecIn w g L) {T : List Nat} (k : Sp T w w') (hg : g ∉ T) : SecIn w' g L :=
  ⟨fun i hi => k.range (h.c i hi) hg, k.there h.t hg, h.z⟩
theorem SecIn.set {w : World} {g : Nat} {L : List ByteArray} (h : SecIn w g L) (i : Nat) (hi : i < L.length) (s : ByteArray) (hs : s.size = 64) : SecIn (w.setCells g (i * 64) (byteCells s)) g (L.set i s) := by
  refine ⟨fun j hj => ?_, ?_, set_all h.z i s hs⟩
  · rw [List.length_set] at hj
    by_cases e : i = j
    · subst e
      rw [getD_set_eq hi]
      exact World.rangeAt_setCells_same w g _ _ (by rw [bc_len, hs]; exact h.at hi)
    · rw [getD_set_ne e]
      refine World.rangeAt_setCells_apart (h.c j hj) g _ _ (.inr ?_)
      have := h.sz hj
      rw [this, bc_len, hs]
      omega
  · rw [List.length_set]; exact World.there_setCells h.t g _ _

/-! ### writes -/
def wc (p : Nat × ByteArray) : List Value := .int .i64 (p.1 : Int) :: byteCells p.2
theorem wc_len (p : Nat × ByteArray) : (wc p).length = p.2.size + 1 := by simp only [wc, List.length_cons, bc_len]
theorem wc_one (p : Nat × ByteArray) : ∀ v ∈ wc p, v.oneCell' = true := by
  intro v hv
  rcases List.mem_cons.1 hv with rfl | hv
  · rfl
  · exact bc_one _ v hv
def wcs : List (Nat × ByteArray) → List Value
  | [] => []
  | p :: r => wc p ++ wcs r
theorem wcs_app : ∀ r q, wcs (r ++ q) = wcs r ++ wcs q
  | [], _ => rfl
  | p :: r, q => by simp only [wcs, List.cons_append, wcs_app r q, List.append_assoc]
theorem wcs_len : ∀ r, (∀ p ∈ r, p.2.size = 64) → (wcs r).length = r.length * 65
  | [], _ => rfl
  | p :: r, h => by
    simp only [wcs, List.length_append, List.length_cons, wcs_len r (fun q hq => h q (List.mem_cons_of_mem _ hq)), wc_len, h p List.mem_cons_self]
    omega
theorem wcs_one : ∀ r, ∀ v ∈ wcs r, v.oneCell' = true
  | [], v, h => by cases h
  | p :: r, v, h => by
    rcases List.mem_append.1 h with h | h
    · exact wc_one p v h
    · exact wcs_one r v h
theorem wcs_at : ∀ (r : List (Nat × ByteArray)) (i : Nat), (∀ p ∈ r, p.2.size = 64) → i < r.length → ∀ (j : Nat) (u : Value), (wc (r.getD i (0, noS)))[j]? = some u → (wcs r)[i * 65 + j]? = some u
  | [], i, _, h, _, _, _ => by simp at h
  | p :: r, 0, hz, _, j, u, hu => by
    have hu' : (wc p)[j]? = some u := hu
    have hj := (List.getElem?_eq_some_iff.1 hu').1
    rw [Nat.zero_mul, Nat.zero_add]
    show (wc p ++ wcs r)[j]? = some u
    rw [List.getElem?_append_left hj]
    exact hu'
  | p :: r, i + 1, hz, h, j, u, hu => by
    have h1 := wcs_at r i (fun q hq => hz q (List.mem_cons_of_mem _ hq)) (by simpa using h) j u hu
    show (wc p ++ wcs r)[(i + 1) * 65 + j]? = some u
    have hl : (wc p).length = 65 := by rw [wc_len, hz p List.mem_cons_self]
    rw [List.getElem?_append_right (by rw [hl]; omega), hl, show (i + 1) * 65 + j - 65 = i * 65 + j by omega]
    exact h1
structure RowIn (w : World) (v : Value) (r : List (Nat × ByteArray)) : Prop where
  o : w.ownsRow 0 164 65 v r.length (wcs r)
  z : ∀ p ∈ r, p.2.size = 64
theorem RowIn.nil (w : World) : RowIn w (.slice none 0 0) [] := ⟨World.ownsRow_nil w 0 _ 65, fun p h => (by cases h)⟩
theorem RowIn.sp {w w' : World} {v : Value} {r : List (Nat × ByteArray)} (h : RowIn w v r) {T : List Nat} (k : Sp T w w') (hg : ∀ g, v.ownBlock = some g → g ∉ T) : RowIn w' v r := ⟨k.own h.o hg, h.z⟩
/-- a row that isn't empty. -/
theorem RowIn.some {w : World} {v : Value} {r : List (Nat × ByteArray)} (h : RowIn w v r) (h0 : 0 < r.length) : ∃ g cap, v = .slice (some ⟨g, 0, none⟩) r.length cap ∧ r.length ≤ cap ∧ cap ≤ maxLen ∧ w.there g 0 (cap * 65) ∧ (∀ i, i < r.length → w.rangeAt g (i * 65) (wc (r.getD i (0, noS)))) := by
  rcases h.o.2 with ⟨_, h1⟩ | ⟨g, cap, cur, rfl, _, hg, hn, hm, hcs, htake⟩
  · omega
  · refine ⟨g, cap, rfl, hn, hm, fun j hj => ?_, fun i hi j u hu => ?_⟩
    · have hj2 : j < cur.size := by rw [hcs]; exact hj
      simp [World.cell?, World.frozen?, hg, hj2]
    · have h2 := wcs_at r i h.z hi j u hu
      have h3 := h.o.cellAt (i * 65 + j) (by have := (List.getElem?_eq_some_iff.1 h2).1; rw [wcs_len r h.z] at this; exact this)
      rw [h3, h2]
theorem RowIn.len {w : World} {v : Value} {r : List (Nat × ByteArray)} (h : RowIn w v r) : ∃ a cap, v = .slice a r.length cap ∧ r.length ≤ cap ∧ cap ≤ 9223372036854775807 := by
  rcases h.o.2 with ⟨rfl, h1⟩ | ⟨g, cap, cur, rfl, _, _, hn, hm, _⟩
  · exact ⟨none, 0, by rw [h1], by omega, by omega⟩
  · exact ⟨_, cap, rfl, hn, by unfold maxLen at hm; omega⟩

/-! ### a member -/
structure MemIn (w : World) (b bn bl : Nat) (rv : Value) (S : MS) (x y : Int) : Prop where
  hb : b < w.heap.size
  cn : ∀ j, j < 4 → w.cell? ⟨b, j, none⟩ = some (.int .i64 (S.c j))
  l4 : w.cell? ⟨b, 4, none⟩ = some (.int .i32 x)
  l6 : w.cell? ⟨b, 6, none⟩ = some (.int .u32 0)
  l7 : w.cell? ⟨b, 7, none⟩ = some (.int .u32 0)
  l8 : w.cell? ⟨b, 8, none⟩ = some (.int .i32 y)
  cN : w.cell? ⟨b, 10, none⟩ = some (.slice (some ⟨bn, 0, none⟩) S.las.length S.las.length)
  cL : w.cell? ⟨b, 11, none⟩ = some (.slice (some ⟨bl, 0, none⟩) S.las.length S.las.length)
  cR : w.cell? ⟨b, 12, none⟩ = some rv
  cD : w.cell? ⟨b, 13, none⟩ = some (.bool S.dead)
  z : ∀ o, w.frozen? ⟨b, o, none⟩ = false
  sn : SecIn w bn S.now
  sl : SecIn w bl S.las
  rw : RowIn w rv S.row
  n1 : bn ≠ b
  n2 : bl ≠ b
  n3 : bl ≠ bn
  n4 : ∀ g, rv.ownBlock = some g → g ≠ b ∧ g ≠ bn ∧ g ≠ bl
  fine : Fine S
/-- its blocks. -/
def blk (b bn bl : Nat) (rv : Value) : List Nat := b :: bn :: bl :: rv.ownBlock.toList
theorem MemIn.sp {w w' : World} {b bn bl : Nat} {rv : Value} {S : MS} {x y : Int} (h : MemIn w b bn bl rv S x y) {T : List Nat} (k : Sp T w w') (hT : ∀ t, t ∈ blk b bn bl rv → t ∉ T) : MemIn w' b bn bl rv S x y := by
  have h0 : b ∉ T := hT b (by simp [blk])
  exact ⟨Nat.lt_of_lt_of_le h.hb k.size, fun j hj => k.held (h.cn j hj) h0, k.held h.l4 h0, k.held h.l6 h0, k.held h.l7 h0, k.held h.l8 h0, k.held h.cN h0, k.held h.cL h0, k.held h.cR h0, k.held h.cD h0,
    fun o => (k.frozen h.hb h0 o).trans (h.z o), h.sn.sp k (hT bn (by simp [blk])), h.sl.sp k (hT bl (by simp [blk])), h.rw.sp k (fun g hg => hT g (by simp [blk, hg])), h.n1, h.n2, h.n3, h.n4, h.fine⟩
theorem MemIn.kp {w w' : World} {b bn bl : Nat} {rv : Value} {S : MS} {x y : Int} (h : MemIn w b bn bl rv S x y) (k : Kp w w') : MemIn w' b bn bl rv S x y := h.sp (k.sp []) (fun _ _ h => by cases h)
/-- a store into its own block. -/
theorem MemIn.own {w w' : World} {b bn bl : Nat} {rv : Value} {S : MS} {x y : Int} (h : MemIn w b bn bl rv S x y) (k : Sp [b] w w') : SecIn w' bn S.now ∧ SecIn w' bl S.las ∧ RowIn w' rv S.row :=
  ⟨h.sn.sp k (by simpa using h.n1), h.sl.sp k (by simpa using h.n2), h.rw.sp k (fun g hg => by simpa using (h.n4 g hg).1)⟩
theorem MemIn.lock {w : World} {b bn bl : Nat} {rv : Value} {S : MS} {x y : Int} (h : MemIn w b bn bl rv S x y) (x' : Int) : MemIn (w.setCell ⟨b, 4, none⟩ (.int .i32 x')) b bn bl rv S x' y := by
  obtain ⟨h1, h2, h3⟩ := h.own ((Sp.refl [b] w).set b 4 (by simp) (.int .i32 x'))
  exact ⟨by simpa [World.setCell] using h.hb, fun j hj => by rw [cell_off _ _ _ _ _ (by omega)]; exact h.cn j hj, World.cell?_setCell_same _ _ _ h.l4, by rw [cell_off _ _ _ _ _ (by omega)]; exact h.l6, by rw [cell_off _ _ _ _ _ (by omega)]; exact h.l7, by rw [cell_off _ _ _ _ _ (by omega)]; exact h.l8,
    by rw [cell_off _ _ _ _ _ (by omega)]; exact h.cN, by rw [cell_off _ _ _ _ _ (by omega)]; exact h.cL, by rw [cell_off _ _ _ _ _ (by omega)]; exact h.cR, by rw [cell_off _ _ _ _ _ (by omega)]; exact h.cD,
    fun o => (World.frozen?_setCell _ _ _ _).trans (h.z o), h1, h2, h3, h.n1, h.n2, h.n3, h.n4, h.fine⟩
theorem MemIn.readers {w : World} {b bn bl : Nat} {rv : Value} {S : MS} {x y : Int} (h : MemIn w b bn bl rv S x y) (y' : Int) : MemIn (w.setCell ⟨b, 8, none⟩ (.int .i32 y')) b bn bl rv S x y' := by
  obtain ⟨h1, h2, h3⟩ := h.own ((Sp.refl [b] w).set b 8 (by simp) (.int .i32 y'))
  exact ⟨by simpa [World.setCell] using h.hb, fun j hj => by rw [cell_off _ _ _ _ _ (by omega)]; exact h.cn j hj, by rw [cell_off _ _ _ _ _ (by omega)]; exact h.l4, by rw [cell_off _ _ _ _ _ (by omega)]; exact h.l6, by rw [cell_off _ _ _ _ _ (by omega)]; exact h.l7, World.cell?_setCell_same _ _ _ h.l8,
    by rw [cell_off _ _ _ _ _ (by omega)]; exact h.cN, by rw [cell_off _ _ _ _ _ (by omega)]; exact h.cL, by rw [cell_off _ _ _ _ _ (by omega)]; exact h.cR, by rw [cell_off _ _ _ _ _ (by omega)]; exact h.cD,
    fun o => (World.frozen?_setCell _ _ _ _).trans (h.z o), h1, h2, h3, h.n1, h.n2, h.n3, h.n4, h.fine⟩
theorem MemIn.count {w : World} {b bn bl : Nat} {rv : Value} {S : MS} {x y : Int} (h : MemIn w b bn bl rv S x y) (i : Nat) (hi : i < 4) : MemIn (w.setCell ⟨b, i, none⟩ (.int .i64 (wrap64 (S.c i + 1)))) b bn bl rv ⟨S.now, S.las, S.row, S.dead, up S.c i⟩ x y := by
  obtain ⟨h1, h2, h3⟩ := h.own ((Sp.refl [b] w).set b i (by simp) (.int .i64 (wrap64 (S.c i + 1))))
  refine ⟨by simpa [World.setCell] using h.hb, fun j hj => ?_, by rw [cell_off _ _ _ _ _ (by omega)]; exact h.l4, by rw [cell_off _ _ _ _ _ (by omega)]; exact h.l6, by rw [cell_off _ _ _ _ _ (by omega)]; exact h.l7, by rw [cell_off _ _ _ _ _ (by omega)]; exact h.l8,
    by rw [cell_off _ _ _ _ _ (by omega)]; exact h.cN, by rw [cell_off _ _ _ _ _ (by omega)]; exact h.cL, by rw [cell_off _ _ _ _ _ (by omega)]; exact h.cR, by rw [cell_off _ _ _ _ _ (by omega)]; exact h.cD,
    fun o => (World.frozen?_setCell _ _ _ _).trans (h.z o), h1, h2, h3, h.n1, h.n2, h.n3, h.n4, ⟨h.fine.n1, h.fine.n2, h.fine.nn, h.fine.bn, h.fine.bl, h.fine.br⟩⟩
  show _ = some (Value.int .i64 (up S.c i j))
  unfold up
  by_cases e : j = i
  · subst e; rw [World.cell?_setCell_same _ _ _ (h.cn j hj), if_pos rfl]
  · rw [cell_off _ _ _ _ _ e, h.cn j hj, if_neg e]
theorem MemIn.death {w : World} {b bn bl : Nat} {rv : Value} {S : MS} {x y : Int} (h : MemIn w b bn bl rv S x y) (d : Bool) : MemIn (w.setCell ⟨b, 13, none⟩ (.bool d)) b bn bl rv ⟨S.now, S.las, S.row, d, S.c⟩ x y := by
  obtain ⟨h1, h2, h3⟩ := h.own ((Sp.refl [b] w).set b 13 (by simp) (.bool d))
  exact ⟨by simpa [World.setCell] using h.hb, fun j hj => by rw [cell_off _ _ _ _ _ (by omega)]; exact h.cn j hj, by rw [cell_off _ _ _ _ _ (by omega)]; exact h.l4, by rw [cell_off _ _ _ _ _ (by omega)]; exact h.l6, by rw [cell_off _ _ _ _ _ (by omega)]; exact h.l7, by rw [cell_off _ _ _ _ _ (by omega)]; exact h.l8,
    by rw [cell_off _ _ _ _ _ (by omega)]; exact h.cN, by rw [cell_off _ _ _ _ _ (by omega)]; exact h.cL, by rw [cell_off _ _ _ _ _ (by omega)]; exact h.cR, World.cell?_setCell_same _ _ _ h.cD,
    fun o => (World.frozen?_setCell _ _ _ _).trans (h.z o), h1, h2, h3, h.n1, h.n2, h.n3, h.n4, ⟨h.fine.n1, h.fine.n2, h.fine.nn, h.fine.bn, h.fine.bl, h.fine.br⟩⟩
/-- another row. -/
theorem MemIn.row {w : World} {b bn bl : Nat} {rv : Value} {S : MS} {x y : Int} (h : MemIn w b bn bl rv S x y) {w' : World} (k : Sp (rv.ownBlock.toList) w w') (rv' : Value) (r : List (Nat × ByteArray)) (hr : RowIn w' rv' r) (hn : ∀ g, rv'.ownBlock = some g → g ≠ b ∧ g ≠ bn ∧ g ≠ bl) (hz : ∀ p ∈ r, p.1 < S.las.length) :
    MemIn (w'.setCell ⟨b, 12, none⟩ rv') b bn bl rv' ⟨S.now, S.las, r, S.dead, S.c⟩ x y := by
  have q := (Sp.refl [b] w').set b 12 (by simp) rv'
  have hT : ∀ t, t = b ∨ t = bn ∨ t = bl → t ∉ rv.ownBlock.toList := fun t ht hm => by
    obtain ⟨h1, h2, h3⟩ := h.n4 t (by simpa using hm)
    rcases ht with rfl | rfl | rfl
    · exact h1 rfl
    · exact h2 rfl
    · exact h3 rfl
  have hB := hT b (.inl rfl)
  have hl := Nat.lt_of_lt_of_le h.hb k.size
  exact ⟨Nat.lt_of_lt_of_le hl q.size, fun j hj => by rw [cell_off _ _ _ _ _ (by omega)]; exact k.held (h.cn j hj) hB, by rw [cell_off _ _ _ _ _ (by omega)]; exact k.held h.l4 hB, by rw [cell_off _ _ _ _ _ (by omega)]; exact k.held h.l6 hB, by rw [cell_off _ _ _ _ _ (by omega)]; exact k.held h.l7 hB, by rw [cell_off _ _ _ _ _ (by omega)]; exact k.held h.l8 hB,
    by rw [cell_off _ _ _ _ _ (by omega)]; exact k.held h.cN hB, by rw [cell_off _ _ _ _ _ (by omega)]; exact k.held h.cL hB, World.cell?_setCell_same _ _ _ (k.held h.cR hB), by rw [cell_off _ _ _ _ _ (by omega)]; exact k.held h.cD hB,
    fun o => (World.frozen?_setCell _ _ _ _).trans ((k.frozen h.hb hB o).trans (h.z o)), (h.sn.sp k (hT bn (.inr (.inl rfl)))).sp q (by simpa using h.n1), (h.sl.sp k (hT bl (.inr (.inr rfl)))).sp q (by simpa using h.n2), hr.sp q (fun g hg => by simpa using (hn g hg).1),
    h.n1, h.n2, h.n3, hn, ⟨h.fine.n1, h.fine.n2, h.fine.nn, h.fine.bn, h.fine.bl, fun p hp => ⟨hz p hp, hr.z p hp⟩⟩⟩
/-- other sectors. -/
theorem MemIn.nows {w : World} {b bn bl : Nat} {rv : Value} {S : MS} {x y : Int} (h : MemIn w b bn bl rv S x y) {w' : World} (k : Sp [bn] w w') (L : List ByteArray) (hL : SecIn w' bn L) (hl : L.length = S.las.length) : MemIn w' b bn bl rv ⟨L, S.las, S.row, S.dead, S.c⟩ x y := by
  have h0 : b ∉ [bn] := by simpa using h.n1.symm
  exact ⟨Nat.lt_of_lt_of_le h.hb k.size, fun j hj => k.held (h.cn j hj) h0, k.held h.l4 h0, k.held h.l6 h0, k.held h.l7 h0, k.held h.l8 h0, k.held h.cN h0, k.held h.cL h0, k.held h.cR h0, k.held h.cD h0,
    fun o => (k.frozen h.hb h0 o).trans (h.z o), hL, h.sl.sp k (by simpa using h.n3), h.rw.sp k (fun g hg => by simpa using (h.n4 g hg).2.1), h.n1, h.n2, h.n3, h.n4, ⟨h.fine.n1, h.fine.n2, hl, hL.z, h.fine.bl, h.fine.br⟩⟩
theorem MemIn.lasts {w : World} {b bn bl : Nat} {rv : Value} {S : MS} {x y : Int} (h : MemIn w b bn bl rv S x y) {w' : World} (k : Sp [bl] w w') (L : List ByteArray) (hL : SecIn w' bl L) (hl : L.length = S.las.length) : MemIn w' b bn bl rv ⟨S.now, L, S.row, S.dead, S.c⟩ x y := by
  have h0 : b ∉ [bl] := by simpa using h.n2.symm
  exact ⟨Nat.lt_of_lt_of_le h.hb k.size, fun j hj => k.held (h.cn j hj) h0, k.held h.l4 h0, k.held h.l6 h0, k.held h.l7 h0, k.held h.l8 h0, by show _ = some (Value.slice _ L.length L.length); rw [hl]; exact k.held h.cN h0, by show _ = some (Value.slice _ L.length L.length); rw [hl]; exact k.held h.cL h0, k.held h.cR h0, k.held h.cD h0,
    fun o => (k.frozen h.hb h0 o).trans (h.z o), h.sn.sp k (by simpa using h.n3.symm), hL, h.rw.sp k (fun g hg => by simpa using (h.n4 g hg).2.2), h.n1, h.n2, h.n3, h.n4, ⟨by show 1 ≤ L.length; rw [hl]; exact h.fine.n1, by show L.length ≤ 256; rw [hl]; exact h.fine.n2, by show _ = L.length; rw [hl]; exact h.fine.nn, h.fine.bn, hL.z, fun p hp => ⟨by show _ < L.length; rw [hl]; exact (h.fine.br p hp).1, (h.fine.br p hp).2⟩⟩⟩
theorem MemIn.low {w : World} {b bn bl : Nat} {rv : Value} {S : MS} {x y : Int} (h : MemIn w b bn bl rv S x y) : ∀ t, t ∈ blk b bn bl rv → t < w.heap.size := fun t ht => by
  have hn := h.fine.n1
  have e1 : bn < w.heap.size := by
    obtain ⟨v, hv⟩ := Option.isSome_iff_exists.1 (h.sn.t 0 (by have := h.fine.nn; omega)).1
    exact World.block_lt_of_cell? w _ hv
  have e2 : bl < w.heap.size := by
    obtain ⟨v, hv⟩ := Option.isSome_iff_exists.1 (h.sl.t 0 (by omega)).1
    exact World.block_lt_of_cell? w _ hv
  simp only [blk, List.mem_cons] at ht
  rcases ht with rfl | rfl | rfl | ht
  · exact h.hb
  · exact e1
  · exact e2
  · exact (h.rw.o.lt t (by simpa using ht)).2

end Go.Proofs.YtinpkfdmellleaaGreat

namespace Go.Proofs.YtinpkfdmellleaaGreat
open Go.RowKit Plain Go.RwLone
set_option linter.unusedVariables false

theorem hid {p : Prop} (h : p) : Hid p := h
/-- behind a call: the member, and what was turned. -/
def Md (w w' : World) (b bn bl : Nat) (rv : Value) (S : MS) : Prop := ∃ rv', MemIn w' b bn bl rv' S 0 0 ∧ Sp (blk b bn bl rv) w w' ∧ Nw w (blk b bn bl rv) (blk b bn bl rv')
theorem b_mem (b bn bl : Nat) (rv : Value) : b ∈ blk b bn bl rv := by simp [blk]
theorem bn_mem (b bn bl : Nat) (rv : Value) : bn ∈ blk b bn bl rv := by simp [blk]
theorem bl_mem (b bn bl : Nat) (rv : Value) : bl ∈ blk b bn bl rv := by simp [blk]
theorem Sp.b {w w' : World} {b bn bl : Nat} {rv : Value} (h : Sp [b] w w') : Sp (blk b bn bl rv) w w' := h.mono (fun t ht => by simp at ht; subst ht; exact b_mem _ _ _ _)
theorem Sp.bn {w w' : World} {b bn bl : Nat} {rv : Value} (h : Sp [bn] w w') : Sp (blk b bn bl rv) w w' := h.mono (fun t ht => by simp at ht; subst ht; exact bn_mem _ _ _ _)
theorem Sp.bl {w w' : World} {b bn bl : Nat} {rv : Value} (h : Sp [bl] w w') : Sp (blk b bn bl rv) w w' := h.mono (fun t ht => by simp at ht; subst ht; exact bl_mem _ _ _ _)
theorem Sp.rw {w w' : World} {b bn bl : Nat} {rv : Value} (h : Sp rv.ownBlock.toList w w') : Sp (blk b bn bl rv) w w' := h.mono (fun t ht => by simp [blk]; exact .inr (.inr (.inr (by simpa using ht))))
theorem Md.same {w w' : World} {b bn bl : Nat} {rv : Value} {S : MS} (h : MemIn w' b bn bl rv S 0 0) (k : Sp (blk b bn bl rv) w w') : Md w w' b bn bl rv S := ⟨rv, h, k, Nw.refl _ _⟩
theorem Nw.none (w : World) (b bn bl : Nat) (rv : Value) : Nw w (blk b bn bl rv) (blk b bn bl (.slice none 0 0)) := fun t ht => .inl (by
  simp [blk, Value.ownBlock] at ht
  rcases ht with rfl | rfl | rfl
  · exact b_mem _ _ _ _
  · exact bn_mem _ _ _ _
  · exact bl_mem _ _ _ _)

/-! ### the lock -/
theorem lock_any {w : World} {b bn bl : Nat} {rv : Value} {S : MS} (h : MemIn w b bn bl rv S 0 0) : Calls Tryz.prog 54 #[.pointer (some ⟨b, 4, none⟩)] w fun e w' => e = .returned (.tuple #[]) ∧ MemIn w' b bn bl rv S 1 (-1073741824) ∧ Sp [b] w w' := by
  refine (wlock_free rwWLib b 4 _ _ w h.l4 h.l6 h.l7 h.l8 (h.z 4) (h.z 8)).mono ?_
  rintro e w' ⟨rfl, rfl⟩
  exact ⟨rfl, (h.lock 1).readers _, ((Sp.refl [b] w).set b 4 (by simp) _).set b 8 (by simp) _⟩
theorem unlock_any {w : World} {b bn bl : Nat} {rv : Value} {S : MS} (h : MemIn w b bn bl rv S 1 (-1073741824)) (u : FrameMode) : CallsD Tryz.prog 55 #[.pointer (some ⟨b, 4, none⟩)] u w fun e u' w' => u' = u ∧ (e = .returned (.tuple #[]) ∧ MemIn w' b bn bl rv S 0 0 ∧ Sp [b] w w') := by
  refine (wunlock_deferred rwWLib b 4 _ _ u w h.l4 h.l6 h.l7 h.l8 (h.z 4) (h.z 8)).mono ?_
  rintro e u' w' ⟨rfl, rfl, rfl⟩
  exact ⟨rfl, rfl, (h.readers 0).lock _, ((Sp.refl [b] w).set b 8 (by simp) _).set b 4 (by simp) _⟩
theorem up1 : wrap32 (0 + 1) = 1 := by simp only [wrap32]; omega
theorem dn1 : wrap32 (1 + -1) = 0 := by simp only [wrap32]; omega
theorem rlock_any {w : World} {b bn bl : Nat} {rv : Value} {S : MS} (h : MemIn w b bn bl rv S 0 0) : Calls Tryz.prog 75 #[.pointer (some ⟨b, 4, none⟩)] w fun e w' => e = .returned (.tuple #[]) ∧ MemIn w' b bn bl rv S 0 1 ∧ Sp [b] w w' := by
  refine (rlock_open rwRLib b 4 0 _ _ w h.l4 h.l7 h.l8 (h.z 8) (by rw [up1]; decide)).mono ?_
  rintro e w' ⟨rfl, rfl⟩
  rw [up1]
  exact ⟨rfl, h.readers _, (Sp.refl [b] w).set b 8 (by simp) _⟩
theorem runlock_any {w : World} {b bn bl : Nat} {rv : Value} {S : MS} (h : MemIn w b bn bl rv S 0 1) (u : FrameMode) : CallsD Tryz.prog 76 #[.pointer (some ⟨b, 4, none⟩)] u w fun e u' w' => u' = u ∧ (e = .returned (.tuple #[]) ∧ MemIn w' b bn bl rv S 0 0 ∧ Sp [b] w w') := by
  refine (runlock_deferred rwRLib b 4 1 _ _ u w h.l4 h.l6 h.l8 (h.z 8) (by rw [dn1]; decide)).mono ?_
  rintro e u' w' ⟨rfl, rfl, rfl⟩
  rw [dn1]
  exact ⟨rfl, rfl, h.readers _, (Sp.refl [b] w).set b 8 (by simp) _⟩

/-! ### the counts -/
theorem load_count (a : Addr) (d : Int) (w : World) (hc : w.cell? a = some (.int .i64 d)) : Calls Tryz.prog 74 #[.pointer (some a)] w fun e w' => e = .returned (.int .i64 d) ∧ w' = w := by
  have hl := run_call_load (P := Tryz.prog) Tryz.func123 (by kernel_rfl) (by kernel_rfl) (by kernel_rfl) .i64 (by kernel_rfl) hc
  go_enter Tryz.func74, Tryz.ntmps74
  go_wp2
  go_ret
  exact ⟨rfl, rfl⟩
theorem add_count (a : Addr) (d : Int) (w : World) (hc : w.cell? a = some (.int .i64 d)) (hz : w.frozen? a = false) : Calls Tryz.prog 78 #[.pointer (some a), .int .i64 1] w fun e w' => e = .returned (.int .i64 (wrap64 (d + 1))) ∧ w' = w.setCell a (.int .i64 (wrap64 (d + 1))) := by
  have hadd := run_call_add (P := Tryz.prog) Tryz.func126 (by kernel_rfl) (by kernel_rfl) (by kernel_rfl) .i64 (by kernel_rfl) (y := 1) (s := wrap64 (d + 1)) hc hz (by simp [go_sem, wrap64, IntKind.wrap_i64])
  go_enter Tryz.func78, Tryz.ntmps78
  go_wp2
  go_ret
  exact ⟨rfl, rfl⟩
theorem count_any {w : World} {b bn bl : Nat} {rv : Value} {S : MS} {x y : Int} (h : MemIn w b bn bl rv S x y) (i : Nat) (hi : i < 4) : Calls Tryz.prog 78 #[.pointer (some ⟨b, i, none⟩), .int .i64 1] w fun e w' => (∃ v, e = .returned (.int .i64 v)) ∧ MemIn w' b bn bl rv ⟨S.now, S.las, S.row, S.dead, up S.c i⟩ x y ∧ Sp [b] w w' := by
  refine (add_count ⟨b, i, none⟩ _ w (h.cn i hi) (h.z i)).mono ?_
  rintro e w' ⟨rfl, rfl⟩
  exact ⟨⟨_, rfl⟩, h.count i hi, (Sp.refl [b] w).set b i (by simp) _⟩

/-! ### reach, Size -/
theorem reach_any {w : World} {b bn bl : Nat} {rv : Value} {S : MS} {x y : Int} (h : MemIn w b bn bl rv S x y) (k : Int) : Calls Tryz.prog 77 #[.pointer (some ⟨b, 0, none⟩), .int .i64 k] w fun e w' => e = .returned (.int .i64 (rcE S k)) ∧ Kp w w' := by
  have cN := h.cN
  have cD := h.cD
  have n2 := h.fine.n2
  obtain ⟨n, hn⟩ : ∃ n, n = S.las.length := ⟨_, rfl⟩
  rw [← hn] at cN n2
  unfold rcE
  rw [← hn]
  obtain ⟨d, hd⟩ : ∃ d, d = S.dead := ⟨_, rfl⟩
  rw [← hd] at cD ⊢
  clear hn hd h
  cases d with
  | true =>
    rw [if_pos rfl]
    go_enter Tryz.func77, Tryz.ntmps77
    go_wp2
    go_ret
    exact ⟨rfl, Kp.refl w⟩
  | false =>
    rw [if_neg (by simp)]
    by_cases h0 : 0 ≤ k
    · by_cases h1 : k < n
      · rw [if_pos ⟨h0, h1⟩]
        go_enter Tryz.func77, Tryz.ntmps77
        go_wp2
        go_ret
        exact ⟨rfl, Kp.refl w⟩
      · rw [if_neg (fun h => h1 h.2)]
        go_enter Tryz.func77, Tryz.ntmps77
        go_wp2
        go_ret
        exact ⟨rfl, Kp.refl w⟩
    · rw [if_neg (fun h => h0 h.1)]
      go_enter Tryz.func77, Tryz.ntmps77
      go_wp2
      go_ret
      exact ⟨rfl, Kp.refl w⟩
theorem size_any {w : World} {b bn bl : Nat} {rv : Value} {S : MS} {x y : Int} (h : MemIn w b bn bl rv S x y) : Calls Tryz.prog 106 #[.pointer (some ⟨b, 0, none⟩)] w fun e w' => e = .returned (.int .i64 (S.las.length : Int)) ∧ w' = w := by
  have cN := h.cN
  go_enter Tryz.func106, Tryz.ntmps106
  go_wp2
  go_ret
  exact ⟨rfl, rfl⟩

/-! ### Dead, Fail -/
theorem dead_any {w : World} {b bn bl : Nat} {rv : Value} {S : MS} (h : MemIn w b bn bl rv S 0 0) : Calls Tryz.prog 36 #[.pointer (some ⟨b, 0, none⟩)] w fun e w' => e = .returned (.bool S.dead) ∧ Md w w' b bn bl rv S := by
  go_enter_defers Tryz.func36, Tryz.ntmps36
  go_wp2_with fail
  refine (rlock_any h).mono ?_
  rintro e w1 ⟨rfl, h1, k1⟩
  have cD := h1.cD
  go_wp2_with fail
  refine leaves_cons (f := 76) (args := #[.pointer (some ⟨b, 4, none⟩)]) (by simp) (by simp [go_sem]) ?_
  refine (runlock_any h1 .returning).mono ?_
  rintro e u' w2 ⟨rfl, rfl, h2, k2⟩
  exact ⟨_, results_tmp rfl _ _ _, rfl, Md.same h2 (k1.trans k2).b⟩
theorem fail_any {w : World} {b bn bl : Nat} {rv : Value} {S : MS} (h : MemIn w b bn bl rv S 0 0) : Calls Tryz.prog 17 #[.pointer (some ⟨b, 0, none⟩)] w fun e w' => e = .returned (.tuple #[]) ∧ Md w w' b bn bl rv (fa S) := by
  go_enter_defers Tryz.func17, Tryz.ntmps17
  go_wp2_with fail
  refine (lock_any h).mono ?_
  rintro e w1 ⟨rfl, h1, k1⟩
  have cD := h1.cD
  have cR := h1.cR
  have z13 := h1.z 13
  have z12 := h1.z 12
  go_wp2_with fail
  have h3 := (h1.death true).row (Sp.refl _ _) (.slice none 0 0) [] (RowIn.nil _) (fun g hg => by cases hg) (fun p hp => by cases hp)
  refine leaves_cons (f := 55) (args := #[.pointer (some ⟨b, 4, none⟩)]) (by simp) (by simp [go_sem]) ?_
  refine (unlock_any h3 .returning).mono ?_
  rintro e u' w2 ⟨rfl, rfl, h2, k2⟩
  refine ⟨_, results_none rfl _ _ _, rfl, _, h2, ?_, Nw.none _ _ _ _ _⟩
  exact (((k1.set b 13 (by simp) _).set b 12 (by simp) _).trans k2).b

end Go.Proofs.YtinpkfdmellleaaGreat

namespace Go.Proofs.YtinpkfdmellleaaGreat
open Go.RowKit Plain Go.RwLone
set_option linter.unusedVariables false

theorem Kp.set {w w1 : World} (h : Kp w w1) (B o : Nat) (hB : w.heap.size ≤ B) (v : Value) : Kp w (w1.setCell ⟨B, o, none⟩ v) := Below.setCell h (p := ⟨B, o, none⟩) hB v
/-- the counts told. -/
def cV (c : Nat → Int) : Value := .agg #[.int .i64 (c 0), .int .i64 (c 1), .int .i64 (c 2), .int .i64 (c 3)]

/-! ### Read -/
theorem text_at {w : World} {g : Nat} {L : List ByteArray} (h : SecIn w g L) (i : Nat) (hi : i < L.length) (c : Nat) : (convert 37 9 (.slice (some ⟨g, i * 64, none⟩) 64 c)).run Tryz.prog w = .ok (.string (L.getD i noS)) w := by
  have hz := h.z _ (getD_mem hi)
  have hr := h.c i hi
  obtain ⟨s, hs⟩ : ∃ s, s = L.getD i noS := ⟨_, rfl⟩
  rw [← hs] at hz hr ⊢
  have := run_convert_bytes_arg (P := Tryz.prog) w 37 5 Tryz.underlying37 Tryz.underlying5 g (i * 64) 64 c ((List.range 64).map fun (j : Nat) => ((bAt s (j : Int) : Nat) : Int)) (by simp) (fun j hj => ?_) 9 Tryz.underlying9
  · rw [this]
    have e := bs_self s
    rw [hz] at e
    show Result.ok (Value.string (bs 64 fun j => bAt s (j : Int))) w = _
    rw [e]
  · have hl : (byteCells s)[j]? = some (.int .u8 ((bAt s (j : Int) : Nat) : Int)) := by
      have h2 : j < s.data.toList.length := by simpa using (show j < s.size by omega)
      unfold byteCells
      rw [List.getElem?_map, List.getElem?_eq_getElem h2, bAt_nat s j (by omega)]
      rfl
    rw [hr j _ hl]
    simp [List.getD_eq_getElem?_getD, hj]
set_option maxRecDepth 100000 in
theorem read_any {w : World} {b bn bl : Nat} {rv : Value} {S : MS} (h : MemIn w b bn bl rv S 0 0) (k : Int) : Calls Tryz.prog 26 #[.pointer (some ⟨b, 0, none⟩), .int .i64 k] w fun e w' => e = .returned (.tuple #[.string (rdS S k), .int .i64 (rcE S k)]) ∧ Md w w' b bn bl rv (rd S k) := by
  by_cases hE : rcE S k = 0
  · have e1 : rdS S k = S.now.getD k.toNat noS := if_pos hE
    have e2 : rd S k = ⟨S.now, S.las, S.row, S.dead, up S.c 0⟩ := if_pos hE
    obtain ⟨_, h0, h1⟩ := rc_ok hE
    rw [e1, e2]
    obtain ⟨i, rfl⟩ : ∃ i : Nat, k = (i : Int) := ⟨k.toNat, by omega⟩
    have hi : i < S.now.length := by rw [h.fine.nn]; omega
    have hn2 := h.fine.n2
    rw [Int.toNat_natCast]
    obtain ⟨s, hs⟩ : ∃ s, s = S.now.getD i noS := ⟨_, rfl⟩
    rw [← hs]
    have HS : Hid (s = S.now.getD i noS) := hs
    have HE : Hid (rcE S (i : Int) = 0) := hE
    clear hs hE e1 e2
    go_enter_defers Tryz.func26, Tryz.ntmps26
    go_wp2_with fail
    refine (rlock_any h).mono ?_
    rintro e w1 ⟨rfl, h1', k1⟩
    go_wp2_with fail
    refine (reach_any h1' _).mono ?_
    rintro e w2 ⟨rfl, k2⟩
    rw [HE.out]
    have h2 := h1'.kp k2
    go_wp2_with fail
    refine (count_any h2 0 (by omega)).mono ?_
    rintro e w3 ⟨⟨v, rfl⟩, h3, k3⟩
    have cN := h3.cN
    have cv := text_at h3.sn i hi 64
    rw [← HS.out] at cv
    have hlen : (i : Int) < (S.las.length : Int) := h1
    go_wp2_with fail
    refine leaves_cons (f := 76) (args := #[.pointer (some ⟨b, 4, none⟩)]) (by simp) (by simp [go_sem]) ?_
    refine (runlock_any h3 .returning).mono ?_
    rintro e u' w4 ⟨rfl, rfl, h4, k4⟩
    refine ⟨_, results_tmp2 rfl _ _ _, ?_, Md.same h4 (((k1.trans (k2.sp _)).trans k3).trans k4).b⟩
    rw [HE.out]
    rfl
  · have e1 : rdS S k = ByteArray.empty := if_neg hE
    have e2 : rd S k = S := if_neg hE
    rw [e1, e2]
    have hr := fun w1 (h1 : MemIn w1 b bn bl rv S 0 1) => reach_any h1 k
    obtain ⟨E, hEE⟩ : ∃ E, E = rcE S k := ⟨_, rfl⟩
    rw [← hEE] at hE hr ⊢
    have hE2 : (E == 0) = false := by simpa using hE
    clear hEE hE e1 e2
    go_enter_defers Tryz.func26, Tryz.ntmps26
    go_wp2_with fail
    refine (rlock_any h).mono ?_
    rintro e w1 ⟨rfl, h1', k1⟩
    go_wp2_with fail
    refine (hr _ h1').mono ?_
    rintro e w2 ⟨rfl, k2⟩
    have h2 := h1'.kp k2
    go_wp2_with fail
    refine leaves_cons (f := 76) (args := #[.pointer (some ⟨b, 4, none⟩)]) (by simp) (by simp [go_sem]) ?_
    refine (runlock_any h2 .returning).mono ?_
    rintro e u' w4 ⟨rfl, rfl, h4, k4⟩
    exact ⟨_, results_tmp2 rfl _ _ _, rfl, Md.same h4 ((k1.trans (k2.sp _)).trans k4).b⟩

end Go.Proofs.YtinpkfdmellleaaGreat

namespace Go.Proofs.YtinpkfdmellleaaGreat
open Go.RowKit

/-- no guard; each waits for earlier ones alone; for each one a later one waits, or the last one. -/
def tailC (l : List Oper) (o : Oper) : Bool :=
  l.all (fun x => x.guard.isNone) && o.guard.isNone &&
  (List.range l.length).all (fun j => match l[j]? with | some x => x.after.all fun e => decide (e.on < j) | none => true) &&
  o.after.all (fun e => decide (e.on < l.length)) &&
  (List.range l.length).all (fun j => (o.after.any fun e => Region.binds .any e && e.on == j) || (List.range l.length).any fun i => decide (j < i) && match l[i]? with | some x => (x.after.any fun e => Region.binds .any e && e.on == j) | none => false)
/-- what has come up had what it waits for come up. -/
def Shut (l : List Oper) (L : Array Bool) : Prop := ∀ (j : Nat) (x : Oper), l[j]? = some x → L.getD j false = true → ∀ e ∈ x.after, Region.binds .any e = true → L.getD e.on false = true
theorem any_tailc {P : Program} {l : List Oper} {o : Oper} {C : World → Prop} {Q : Exit → Act → World → Prop} {Qa : Act → Prop} (hB : tailC l o = true)
    (hQ : ∀ a w, C w → Qa a → wpOp P (l ++ [o]).toArray Q l.length (fun a w => Q .normal a w) a w) :
    ∀ (f : Nat) (L : Array Bool) (a : Act) (w : World), C w → L.size = l.length → left L = f → Shut l L → wpAnyQ P .any l.toArray C Qa f L a → wpAny P .any (l ++ [o]).toArray Q (f + 1) (L.push false) a w := by
  unfold tailC at hB
  simp only [Bool.and_eq_true, List.all_eq_true, List.mem_range] at hB
  obtain ⟨⟨⟨⟨hg, hgo⟩, hbk⟩, hbo⟩, hwt⟩ := hB
  have hat : ∀ j, j < l.length → (l ++ [o]).toArray[j]? = l[j]? := fun j hj => by simp [List.getElem?_append_left hj]
  have hlast : (l ++ [o]).toArray[l.length]? = some o := by simp
  have hbk2 : ∀ (j : Nat) (x : Oper), l[j]? = some x → ∀ e ∈ x.after, e.on < j := fun j x hx e he => by
    have hj : j < l.length := (List.getElem?_eq_some_iff.1 hx).1
    have := hbk j hj
    rw [hx] at this
    exact of_decide_eq_true (Array.all_eq_true_iff_forall_mem.1 this e he)
  have hbo2 : ∀ e ∈ o.after, e.on < l.length := fun e he => of_decide_eq_true (Array.all_eq_true_iff_forall_mem.1 hbo e he)
  intro f
  induction f with
  | zero =>
    intro L a w hw hL hf hcl h
    have hall : ∀ i, i < l.length → ∀ b, L.getD i b = true := fun i hi b => left_zero hf i (by omega) b
    have hr : l.length ∈ Region.ready .any (l ++ [o]).toArray (L.push false) := by
      rw [mem_ready]
      refine ⟨by rw [← hL]; exact push_last L true, o, hlast, fun e he _ => ?_⟩
      have := hbo2 e he
      rw [push_head L false e.on (by omega)]
      exact hall _ this _
    refine ⟨fun h0 => (by rw [h0] at hr; cases hr), fun i hi => ?_⟩
    obtain rfl : i = l.length := by
      have h1 := (mem_ready.1 hi).1
      rcases Nat.lt_trichotomy i l.length with h2 | h2 | h2
      · rw [push_head L true i (by omega), hall i h2] at h1; cases h1
      · exact h2
      · rw [push_over L i (by omega)] at h1; cases h1
    refine wpOp_mono (fun a w h2 => ⟨?_, h2⟩) (hQ a w hw h.2)
    apply List.eq_nil_iff_forall_not_mem.2
    intro j hj
    have h1 := (mem_ready.1 hj).1
    rw [Array.getD_eq_getD_getElem?, Array.getElem?_setIfInBounds, Array.size_push] at h1
    rcases Nat.lt_trichotomy j l.length with h2 | h2 | h2
    · rw [if_neg (by omega), ← Array.getD_eq_getD_getElem?, push_head L true j (by omega), hall j h2] at h1; cases h1
    · rw [if_pos h2.symm, if_pos (by omega)] at h1; cases h1
    · rw [if_neg (by omega), ← Array.getD_eq_getD_getElem?, push_over L j (by omega)] at h1; cases h1
  | succ f ih =>
    intro L a w hw hL hf hcl h
    obtain ⟨m, hm, hm1, hm2⟩ := left_pos (L := L) (by omega)
    have hml : m < l.length := by omega
    have hr : m ∈ Region.ready .any (l ++ [o]).toArray (L.push false) := by
      rw [mem_ready]
      refine ⟨by rw [push_head L true m hm]; exact hm1, l[m], by rw [hat m hml]; exact List.getElem?_eq_getElem hml, fun e he _ => ?_⟩
      have := hbk2 m _ (List.getElem?_eq_getElem hml) e he
      rw [push_head L false e.on (by omega)]
      exact hm2 _ this
    refine ⟨fun h0 => (by rw [h0] at hr; cases hr), fun i hi => ?_⟩
    obtain ⟨h1, x, hx, hall⟩ := mem_ready.1 hi
    have hil : i < l.length := by
      rcases Nat.lt_trichotomy i l.length with h2 | h2 | h2
      · exact h2
      · subst h2
        rw [hlast] at hx
        obtain rfl := Option.some.inj hx
        have hdone : ∀ d j, j < l.length → l.length - j ≤ d → L.getD j false = true := by
          intro d
          induction d with
          | zero => intro j hj h0; omega
          | succ d ihd =>
            intro j hj hd
            have hw2 := hwt j hj
            rw [Bool.or_eq_true] at hw2
            rcases hw2 with hw2 | hw2
            · obtain ⟨e, he, hb⟩ := Array.any_eq_true'.1 hw2
              simp only [Bool.and_eq_true, beq_iff_eq] at hb
              have h3 := hall e he hb.1
              rw [hb.2, push_head L false j (by omega)] at h3
              exact h3
            · obtain ⟨i2, hi2, hb⟩ := List.any_eq_true.1 hw2
              rw [Bool.and_eq_true, decide_eq_true_eq] at hb
              have hi3 : i2 < l.length := List.mem_range.1 hi2
              rw [List.getElem?_eq_getElem hi3] at hb
              obtain ⟨e, he, hb2⟩ := Array.any_eq_true'.1 hb.2
              simp only [Bool.and_eq_true, beq_iff_eq] at hb2
              have h3 := hcl i2 _ (List.getElem?_eq_getElem hi3) (ihd i2 hi3 (by omega)) e he hb2.1
              rw [hb2.2] at h3
              exact h3
        have h3 := hdone l.length m hml (by omega)
        rw [Array.getD_eq_getD_getElem?, Array.getElem?_eq_getElem hm] at h3 hm1
        simp at h3 hm1
        rw [h3] at hm1; cases hm1
      · rw [push_over L i (by omega)] at h1; cases h1
    rw [hat i hil] at hx
    rw [push_head L true i (by omega)] at h1
    have hri : i ∈ Region.ready .any l.toArray L := by
      rw [mem_ready]
      refine ⟨h1, x, by simpa using hx, fun e he hb => ?_⟩
      have h3 := hall e he hb
      have := hbk2 i x hx e he
      rw [push_head L false e.on (by omega)] at h3
      exact h3
    have hcl2 : Shut l (L.setIfInBounds i true) := fun j y hy hj e he hb => by
      have hold : L.getD e.on false = true → (L.setIfInBounds i true).getD e.on false = true := fun h3 => by
        rw [Array.getD_eq_getD_getElem?, Array.getElem?_setIfInBounds]
        split
        · split <;> simp_all
        · rw [← Array.getD_eq_getD_getElem?]; exact h3
      by_cases hji : j = i
      · subst hji
        rw [hx] at hy
        obtain rfl := Option.some.inj hy
        have h3 := hall e he hb
        have := hbk2 j x hx e he
        rw [push_head L false e.on (by omega)] at h3
        exact hold h3
      · refine hold (hcl j y hy ?_ e he hb)
        rw [Array.getD_eq_getD_getElem?, Array.getElem?_setIfInBounds, if_neg (fun e => hji e.symm), ← Array.getD_eq_getD_getElem?] at hj
        exact hj
    have hq := h.2 i hri
    unfold qOp at hq
    unfold wpOp
    rw [show l.toArray[i]? = some x by simpa using hx] at hq
    rw [show (l ++ [o]).toArray[i]? = some x by rw [hat i hil]; exact hx]
    have hgx : x.guard.isNone = true := hg x (List.mem_of_getElem? hx)
    simp only [wanted_none hgx, if_true] at hq ⊢
    refine .inl (Oper.wp_of_quiet hw (fun a' w' hw' hK => ?_) hq)
    rw [push_set L i (by omega)]
    exact ih _ a' w' hw' (by rw [Array.size_setIfInBounds]; exact hL) (by have := left_set (L := L) (i := i) (by omega) h1; omega) hcl2 hK

/-- the region's law. -/
theorem wp_region_tailc {P : Program} {id : Nat} {Q : Exit → Act → World → Prop} {a : Act} {w : World} (l : List Oper) (o : Oper) (ops : Array Oper) (hops : ops = (l ++ [o]).toArray) (hm : P.follows .mixedOrders = true) (hX : Region.lexB .any l.toArray = true) (hB : tailC l o = true)
    (h : wpQuiet P l.toArray (fun w' => ∃ p, w' = kpw w p) (fun a' => ∀ w', (∃ p, w' = kpw w p) → wpOp P (l ++ [o]).toArray Q l.length (fun a w => Q .normal a w) a' w') l a) : (Code.region id ops true).wp P Q a w := by
  subst hops
  refine wp_region_any hm ?_
  simp only [Region.lexB, Bool.and_eq_true] at hX
  have H := wpAnyQ_lex (C := fun w' => ∃ p, w' = kpw w p) (md := .any) hX.1 l 0 (Array.replicate l.toArray.size false) a (by simp) (by simpa using hX.2) h
  have := any_tailc (P := P) (Q := Q) (C := fun w' => ∃ p, w' = kpw w p) (Qa := fun a' => ∀ w', (∃ p, w' = kpw w p) → wpOp P (l ++ [o]).toArray Q l.length (fun a w => Q .normal a w) a' w') hB (fun a w hw h => h w hw) l.length (Array.replicate l.toArray.size false) a w.drew (kpw_of (Kp.refl w).drew) (by simp) (by unfold left; simp) (fun j x hx hj => by rw [Array.getD_eq_getD_getElem?, Array.getElem?_replicate] at hj; split at hj <;> simp at hj) (by simpa using H)
  rw [show (l ++ [o]).toArray.size = l.length + 1 by simp]
  rw [show Array.replicate (l.length + 1) false = (Array.replicate l.toArray.size false).push false by simp [Array.replicate_succ]]
  exact this

theorem wp_region_tailc2 {P : Program} {id : Nat} {Q : Exit → Act → World → Prop} {a : Act} {w : World} {l0 : List Oper} {o : Oper} (ho : l0.getLast? = some o) (hm : P.follows .mixedOrders = true) (hX : Region.lexB .any l0.dropLast.toArray = true) (hB : tailC l0.dropLast o = true)
    (h : wpQuiet P l0.dropLast.toArray (fun w' => ∃ p, w' = kpw w p) (fun a' => ∀ w', (∃ p, w' = kpw w p) → wpList P l0.toArray Q [o] a' w') l0.dropLast a) : (Code.region id l0.toArray true).wp P Q a w := by
  have e : l0 = l0.dropLast ++ [o] := by
    have hne : l0 ≠ [] := fun h => by rw [h] at ho; cases ho
    have h1 := List.dropLast_concat_getLast hne
    rw [List.getLast?_eq_some_getLast hne] at ho
    rw [Option.some.inj ho] at h1
    exact h1.symm
  refine wp_region_tailc l0.dropLast o l0.toArray (by rw [← e]) hm hX hB ?_
  rw [← e]
  have key : ∀ a' w', wpList P l0.toArray Q [o] a' w' → wpOp P l0.toArray Q l0.dropLast.length (fun a w => Q .normal a w) a' w' := fun a' w' h => by
    have h0 : l0.toArray[l0.dropLast.length]? = some o := by
      have : (l0.dropLast ++ [o])[l0.dropLast.length]? = some o := by simp
      rw [← e] at this
      simpa using this
    unfold wpOp
    simp only [h0]
    exact h
  have mono : ∀ (K K' : Act → Prop), (∀ a, K a → K' a) → ∀ (l : List Oper) (a : Act), wpQuiet P l0.dropLast.toArray (fun w' => ∃ p, w' = kpw w p) K l a → wpQuiet P l0.dropLast.toArray (fun w' => ∃ p, w' = kpw w p) K' l a := by
    intro K K' hK l
    induction l with
    | nil => exact fun a h => hK a h
    | cons x l ih =>
      intro a h
      unfold wpQuiet at h ⊢
      split
      · rename_i hw
        rw [if_pos hw] at h
        exact Oper.quiet_mono (fun a h => ih a h) h
      · rename_i hw
        rw [if_neg hw] at h
        exact ih _ h
  exact mono _ _ (fun a' h w' hw' => key a' w' (h w' hw')) _ _ h

end Go.Proofs.YtinpkfdmellleaaGreat

namespace Go.Proofs.YtinpkfdmellleaaGreat
open Go.RowKit Plain
set_option linter.unusedVariables false

theorem run_copy_str (w : World) (ty : TypeId) (g off c : Nat) (s : ByteArray) (hz : s.size = 64) (ht : w.there g off 64) :
    (Builtin.copy_ #[37, 9] ty #[.slice (some ⟨g, off, none⟩) 64 c, .string s]).run Tryz.prog w = .ok (.int .i64 64) (w.setCells g off (byteCells s)) := by
  have hst := run_storeCells_cells (P := Tryz.prog) g off (byteCells s) 0 w (fun j hj => by rw [bc_len, hz] at hj; simpa using (ht j hj).1) (fun j hj => by rw [bc_len, hz] at hj; simpa using (ht j hj).2) (bc_one s)
  have hf := firstCells_string (P := Tryz.prog) s w
  rw [hz] at hf
  simp only [Nat.add_zero] at hst
  simp [Builtin.copy_, run_underlying Tryz.underlying37, Builtin.lenOf, hz, Tryz.sizeOf5, hf, hst, goInt]
theorem run_copy_byt (w : World) (ty : TypeId) (g off c g2 o2 c2 : Nat) (cs : List Value) (hl : cs.length = 64) (h1 : ∀ v ∈ cs, v.oneCell' = true) (ht : w.there g off 64) (hr : w.rangeAt g2 o2 cs) :
    (Builtin.copy_ #[37, 37] ty #[.slice (some ⟨g, off, none⟩) 64 c, .slice (some ⟨g2, o2, none⟩) 64 c2]).run Tryz.prog w = .ok (.int .i64 64) (w.setCells g off cs) := by
  have := run_copy_cells (P := Tryz.prog) w 37 37 ty 5 g off 64 c ⟨g2, o2, none⟩ 64 c2 cs Tryz.underlying37 (by kernel_rfl) (by rw [hl]; rfl) (fun j v hv => by rw [Addr.add_mid]; exact hr j v hv) (fun j hj => (ht j (by omega)).1) (fun j hj => (ht j (by omega)).2) h1
  rw [hl] at this
  exact this
theorem run_copy_secs (w : World) (ty : TypeId) (g g2 n c c2 : Nat) (cs : List Value) (hl : cs.length = n * 64) (h1 : ∀ v ∈ cs, v.oneCell' = true) (ht : w.there g 0 (n * 64)) (hr : w.rangeAt g2 0 cs) :
    (Builtin.copy_ #[128, 128] ty #[.slice (some ⟨g, 0, none⟩) n c, .slice (some ⟨g2, 0, none⟩) n c2]).run Tryz.prog w = .ok (.int .i64 (n : Int)) (w.setCells g 0 cs) := by
  have hst := run_storeCells_cells (P := Tryz.prog) g 0 cs 0 w (fun j hj => by rw [hl] at hj; simpa using (ht j hj).1) (fun j hj => by rw [hl] at hj; simpa using (ht j hj).2) h1
  have hf := run_firstCells_some (P := Tryz.prog) w 64 n ⟨g2, 0, none⟩ n c2 cs hl (fun j u hu => by rw [Addr.add_mid]; exact hr j u hu)
  simp only [Nat.add_zero] at hst
  simp [Builtin.copy_, run_underlying Tryz.underlying128, Builtin.lenOf, Tryz.sizeOf154, hf, hst, goInt]
theorem wpList_copy_run {w : World} {ops : Array Oper} {rest : List Oper} {o : Oper} {a : Act} {Q : Exit → Act → World → Prop} (hgd : o.guard = none) (d s : Operand) (dT sT : TypeId)
    (ho : o.op = .call { callee := .builtin .copy, args := #[d, s], argTypes := #[dT, sT] }) (dv sv r : Value) (w' : World) (hd : a.eval d = dv) (hs : a.eval s = sv)
    (hrun : (Builtin.copy_ #[dT, sT] o.type #[dv, sv]).run Tryz.prog w = .ok r w') (h : wpList Tryz.prog ops Q rest (a.put o.dst r) w') : wpList Tryz.prog ops Q (o :: rest) a w := by
  refine wpList_plain hgd fun K hK' => ?_
  unfold Oper.wp
  simp [execOp, ho, resolve, invoke, builtin, hd, hs, hrun, Result.andThen]
  exact hK' _ _ h
/-- the cells of all sectors. -/
def scs : List ByteArray → List Value
  | [] => []
  | s :: L => byteCells s ++ scs L
theorem scs_len : ∀ L, (∀ s ∈ L, s.size = 64) → (scs L).length = L.length * 64
  | [], _ => rfl
  | s :: L, h => by
    simp only [scs, List.length_append, List.length_cons, scs_len L (fun q hq => h q (List.mem_cons_of_mem _ hq)), bc_len, h s List.mem_cons_self]
    omega
theorem scs_one : ∀ L, ∀ v ∈ scs L, v.oneCell' = true
  | [], v, h => by cases h
  | s :: L, v, h => by
    rcases List.mem_append.1 h with h | h
    · exact bc_one s v h
    · exact scs_one L v h
theorem scs_at : ∀ (L : List ByteArray) (i : Nat), (∀ s ∈ L, s.size = 64) → i < L.length → ∀ (j : Nat), j < 64 → (scs L)[i * 64 + j]? = (byteCells (L.getD i noS))[j]?
  | [], i, _, h, _, _ => by simp at h
  | s :: L, 0, hz, _, j, hj => by
    rw [Nat.zero_mul, Nat.zero_add]
    show (byteCells s ++ scs L)[j]? = (byteCells s)[j]?
    rw [List.getElem?_append_left (by rw [bc_len, hz s List.mem_cons_self]; exact hj)]
  | s :: L, i + 1, hz, h, j, hj => by
    have h1 := scs_at L i (fun q hq => hz q (List.mem_cons_of_mem _ hq)) (by simpa using h) j hj
    show (byteCells s ++ scs L)[(i + 1) * 64 + j]? = (byteCells (L.getD i noS))[j]?
    have hl : (byteCells s).length = 64 := by rw [bc_len, hz s List.mem_cons_self]
    rw [List.getElem?_append_right (by rw [hl]; omega), hl, show (i + 1) * 64 + j - 64 = i * 64 + j by omega]
    exact h1
theorem SecIn.all {w : World} {g : Nat} {L : List ByteArray} (h : SecIn w g L) : w.rangeAt g 0 (scs L) := fun j v hv => by
  have hj := (List.getElem?_eq_some_iff.1 hv).1
  rw [scs_len L h.z] at hj
  have e : j = j / 64 * 64 + j % 64 := by omega
  have hi : j / 64 < L.length := by omega
  rw [e, scs_at L (j / 64) h.z hi (j % 64) (by omega)] at hv
  have := h.c (j / 64) hi (j % 64) v hv
  rw [Nat.zero_add]
  rw [← e] at this
  exact this
theorem SecIn.of {w : World} {g : Nat} {L : List ByteArray} (hr : w.rangeAt g 0 (scs L)) (ht : w.there g 0 (L.length * 64)) (hz : ∀ s ∈ L, s.size = 64) : SecIn w g L :=
  ⟨fun i hi j v hv => by
    have hj := (List.getElem?_eq_some_iff.1 hv).1
    rw [bc_len, hz _ (getD_mem hi)] at hj
    have := hr (i * 64 + j) v (by rw [scs_at L i hz hi j hj]; exact hv)
    rwa [Nat.zero_add] at this, ht, hz⟩
/-- sectors overwritten whole. -/
theorem SecIn.over {w : World} {g : Nat} {L : List ByteArray} (h : SecIn w g L) (L' : List ByteArray) (hl : L'.length = L.length) (hz : ∀ s ∈ L', s.size = 64) : SecIn (w.setCells g 0 (scs L')) g L' :=
  SecIn.of (World.rangeAt_setCells_same w g 0 _ (by rw [scs_len L' hz, hl]; exact h.t)) (by rw [hl]; exact World.there_setCells h.t g 0 _) hz

/-! ### a write in a block of its own -/
structure Vr (w : World) (k : Nat) (p : Nat × ByteArray) : Prop where
  r : w.rangeAt k 0 (wc p)
  t : w.there k 0 65
  z : p.2.size = 64
  hk : k < w.heap.size
theorem Vr.at {w : World} {k : Nat} {p : Nat × ByteArray} (h : Vr w k p) : w.cell? ⟨k, 0, none⟩ = some (.int .i64 (p.1 : Int)) := h.r 0 _ rfl
theorem Vr.bytes {w : World} {k : Nat} {p : Nat × ByteArray} (h : Vr w k p) : w.rangeAt k 1 (byteCells p.2) := fun j v hv => by
  have := h.r (j + 1) v (by simpa [wc] using hv)
  rw [show 1 + j = 0 + (j + 1) by omega]
  exact this
theorem Vr.load {w : World} {k : Nat} {p : Nat × ByteArray} (h : Vr w k p) : (Instr.loadAt 164 (.pointer (some ⟨k, 0, none⟩))).run Tryz.prog w = .ok (.agg (wc p).toArray) w :=
  run_loadAt_mid w k 0 164 (wc p) _ h.r Tryz.underlying164 rfl (by rw [wc_len, h.z]; kernel_rfl)
theorem Vr.sp {w w' : World} {k : Nat} {p : Nat × ByteArray} (h : Vr w k p) {T : List Nat} (q : Sp T w w') (hk : k ∉ T) : Vr w' k p := ⟨q.range h.r hk, q.there h.t hk, h.z, Nat.lt_of_lt_of_le h.hk q.size⟩
theorem zero_len : Tryz.zeroCells164.size = 65 := by kernel_rfl
theorem there_new (w : World) (cs : Array Value) (t : TypeId) (n : Nat) (hn : n = cs.size) : (w.alloc (.cells cs t)).there w.heap.size 0 n := fun j hj => by
  rw [World.cell?_alloc_at _ _ _ _ rfl, World.frozen?_alloc_at _ _ _ _ rfl, Nat.zero_add, Array.getElem?_eq_getElem (by omega)]
  exact ⟨rfl, rfl⟩
/-- a write loaded. -/
theorem wpList_load_w {w : World} {ops : Array Oper} {rest : List Oper} {o : Oper} {a : Act} {Q : Exit → Act → World → Prop} (hgd : o.guard = none) (x : Operand) (ho : o.op = .load 164 x)
    (g off : Nat) (hx : a.eval x = .pointer (some ⟨g, off, none⟩)) (p : Nat × ByteArray) (hz : p.2.size = 64) (hr : w.rangeAt g off (wc p))
    (h : wpList Tryz.prog ops Q rest (a.put o.dst (.agg (wc p).toArray)) w) : wpList Tryz.prog ops Q (o :: rest) a w :=
  wpList_load_mid hgd 164 x ho g off hx (wc p) _ hr Tryz.underlying164 rfl (by rw [wc_len, hz]; kernel_rfl) h
/-- a write stored into a block just made. -/
theorem wpList_store_new {w0 : World} {ops : Array Oper} {rest : List Oper} {o : Oper} {a : Act} {Q : Exit → Act → World → Prop} (hgd : o.guard = none) (x y : Operand) (ho : o.op = .store 164 x y)
    (p : Nat × ByteArray) (hz : p.2.size = 64) (k : Nat) (hk : k = w0.heap.size) (hx : a.eval x = .pointer (some ⟨k, 0, none⟩)) (hy : a.eval y = .agg (wc p).toArray)
    (h : ∀ w', Kp w0 w' → Vr w' k p → k < w'.heap.size → wpList Tryz.prog ops Q rest (a.put o.dst undef) w') : wpList Tryz.prog ops Q (o :: rest) a (w0.alloc (.cells Tryz.zeroCells164 164)) := by
  subst hk
  have ht := there_new w0 Tryz.zeroCells164 164 65 zero_len.symm
  have hlen : (wc p).length = 65 := by rw [wc_len, hz]
  refine wpList_store_mid hgd 164 x y ho w0.heap.size 0 (wc p).toArray hx hy (by simpa [hlen] using ht) (by simp only [List.size_toArray, hlen]; kernel_rfl) (all_oneCell_toArray (wc_one p)) ?_
  have K := Sp.setCells (T := [w0.heap.size]) w0.heap.size (by simp) (wc p) 0 _ (Sp.refl _ (w0.alloc (.cells Tryz.zeroCells164 164)))
  refine h _ (Sp.kp ((Kp.refl w0).alloc _) K (by simp)) ⟨World.rangeAt_setCells_same _ _ _ _ (by rw [hlen]; exact ht), World.there_setCells ht _ _ _, hz, Nat.lt_of_lt_of_le (by simp) K.size⟩ (Nat.lt_of_lt_of_le (by simp) K.size)

end Go.Proofs.YtinpkfdmellleaaGreat

namespace Go.Proofs.YtinpkfdmellleaaGreat
open Go.RowKit Plain
set_option linter.unusedVariables false

set_option maxRecDepth 100000 in
set_option maxHeartbeats 1000000 in
theorem settle_any {w : World} {b bn bl : Nat} {rv : Value} {S : MS} {x y : Int} (h : MemIn w b bn bl rv S x y) : Calls Tryz.prog 132 #[.pointer (some ⟨b, 0, none⟩)] w fun e w' => e = .returned (.tuple #[]) ∧ MemIn w' b bn bl (.slice none 0 0) ⟨S.now, pl S.las S.row, [], S.dead, S.c⟩ x y ∧ Sp [b, bl] w w' := by
  obtain ⟨a, cap, rfl, hn1, hn2⟩ := h.rw.len
  obtain ⟨n, hn⟩ : ∃ n, n = S.row.length := ⟨_, rfl⟩
  rw [← hn] at h hn1
  have HN : Hid (n = S.row.length) := hn
  have cR := h.cR
  clear hn
  go_enter Tryz.func132, Tryz.ntmps132
  go_wp2_with fail
  go_loopw [9] (fun i wr => ∃ k : Nat, k ≤ n ∧ i = .int .i64 k ∧ MemIn wr b bn bl (.slice a n cap) ⟨S.now, pl S.las (S.row.take k), S.row, S.dead, S.c⟩ x y ∧ Sp [bl] w wr) (fun i _ => n - (intOf i).toNat)
  case atStart => exact ⟨0, by omega, by go_num, h, Sp.refl _ _⟩
  case round =>
    clear cR h
    obtain ⟨k, hk, rfl, hM, hK⟩ := hrel
    by_cases hlt : k < n
    · obtain ⟨g, cap', hv, hc1, hc2, ht, hrg⟩ := hM.rw.some (show 0 < S.row.length by rw [← HN.out]; omega)
      obtain rfl : a = some ⟨g, 0, none⟩ := by simp only [Value.slice.injEq] at hv; exact hv.1
      clear hv hc1 hc2 ht
      have hks : k < S.row.length := by rw [← HN.out]; exact hlt
      have hr := hrg k hks
      have hpt := pl_take S.las S.row k hks
      have hpb := hM.fine.br (S.row.getD k (0, noS)) (by rw [List.getD_eq_getElem?_getD, List.getElem?_eq_getElem hks]; exact List.getElem_mem hks)
      simp only at hr
      obtain ⟨p, hp⟩ : ∃ p, p = S.row.getD k (0, noS) := ⟨_, rfl⟩
      rw [← hp] at hr hpt hpb
      obtain ⟨hp1, hp2⟩ := hpb
      rw [pl_len] at hp1
      have HP : Hid (pl S.las (List.take (k + 1) S.row) = (pl S.las (List.take k S.row)).set p.1 p.2) := hpt
      have HT : Hid (∀ i, i < S.row.length → wr.rangeAt g (i * 65) (wc (S.row.getD i (0, noS)))) := hrg
      have HM : Hid (MemIn wr b bn bl (.slice (some ⟨g, 0, none⟩) n cap) ⟨S.now, pl S.las (S.row.take k), S.row, S.dead, S.c⟩ x y) := hM
      clear hp hpt hrg hM
      go_wp2_with (first | refine wpList_load_w rfl _ rfl g (k * 65) rfl p hp2 hr ?_ | refine wpList_store_new rfl _ _ rfl p hp2 _ rfl rfl rfl ?_)
      intro w2 k2 V2 hl2
      have M2 := HM.out.kp k2
      obtain ⟨K, hKK⟩ : ∃ K, K = wr.heap.size := ⟨_, rfl⟩
      rw [← hKK] at V2 hl2 ⊢
      have hKl : bl < wr.heap.size := by
        obtain ⟨v, hv⟩ := Option.isSome_iff_exists.1 (HM.out.sl.t 0 (by rw [pl_len]; have := HM.out.fine.n1; simp only [pl_len] at this; omega)).1
        exact World.block_lt_of_cell? wr _ hv
      have hne : bl ≠ K := by omega
      have hW : w.heap.size ≤ K := by rw [hKK]; exact hK.size
      clear hKK HM hKl hr
      have cL := M2.cL
      have nl : ((pl S.las (S.row.take k)).length : Int) ≤ 256 := by have := M2.fine.n2; simp only at this; omega
      have nl2 : (p.1 : Int) < ((pl S.las (S.row.take k)).length : Int) := by rw [pl_len]; omega
      obtain ⟨m, hm⟩ : ∃ m, m = (pl S.las (S.row.take k)).length := ⟨_, rfl⟩
      simp only at cL
      rw [← hm] at nl nl2 cL
      have va := V2.at
      obtain ⟨j, hj⟩ : ∃ j, j = p.1 := ⟨_, rfl⟩
      rw [← hj] at nl2 va
      have HJ : Hid (j = p.1) := hj
      have HM2 : Hid (m = (pl S.las (S.row.take k)).length) := hm
      clear hj hm
      have q1 := kpw_cell cL
      have q2 := kpw_cell va
      go_wp2_with fail
      refine wp_region_tailc2 rfl (by kernel_rfl) (by kernel_rfl) (by kernel_rfl) ?_
      simp only [List.dropLast]
      repeat (first
        | go_big_quiet_skip
        | (go_big_quiet_want; go_big_quiet_op; go_big_quiet_on))
      refine wpQuiet_nil ?_
      rintro w9 ⟨q, hp9⟩
      have kD : Kp w2 w9 := by rw [hp9]; exact kpw_kp w2 q
      clear hp9 q1 q2
      have M9 := M2.kp kD
      have V9 := V2.sp (kD.sp []) (by simp)
      have hcp := run_copy_byt w9 3 bl (j * 64) 64 K 1 64 (byteCells p.2) (by rw [bc_len]; exact hp2) (bc_one _) (M9.sl.at (by rw [HJ.out, pl_len]; exact hp1)) V9.bytes
      have hsp : Sp [bl] w9 (w9.setCells bl (j * 64) (byteCells p.2)) := Sp.setCells bl (by simp) _ _ _ (Sp.refl _ _)
      have M10 := M9.lasts hsp ((pl S.las (S.row.take k)).set p.1 p.2) (by rw [HJ.out]; exact M9.sl.set p.1 (by rw [pl_len]; exact hp1) p.2 hp2) (by simp)
      simp only at M10
      rw [← HP.out] at M10
      have S10 : Sp [bl] w (w9.setCells bl (j * 64) (byteCells p.2)) := ((hK.trans (k2.sp _)).trans (kD.sp _)).trans hsp
      obtain ⟨w10, hw10⟩ : ∃ w10, w10 = w9.setCells bl (j * 64) (byteCells p.2) := ⟨_, rfl⟩
      rw [← hw10] at hcp M10 S10
      clear M9 V9 hsp hw10 M2 V2 cL va
      refine wpList_copy_run rfl (.tmp 20) (.tmp 22) 37 37 rfl _ _ _ _ rfl rfl hcp ?_
      go_wp2
      go_roundw
      case rel => exact ⟨k + 1, by omega, by go_num, M10, S10⟩
      case measure => simp [intOf]; omega
    · obtain rfl : k = n := by omega
      have cR := hM.cR
      have z12 := hM.z 12
      go_wp2
      have h3 := hM.row (Sp.refl _ _) (.slice none 0 0) [] (RowIn.nil _) (fun g hg => by cases hg) (fun p hp => by cases hp)
      simp only at h3
      rw [show S.row.take k = S.row by rw [HN.out, List.take_length]] at h3
      go_end0
      exact ⟨rfl, h3, (hK.mono (fun t ht => by simp at ht; simp [ht])).set b 12 (by simp) _⟩

end Go.Proofs.YtinpkfdmellleaaGreat

namespace Go.Proofs.YtinpkfdmellleaaGreat
open Go.RowKit Plain
set_option linter.unusedVariables false

def z0 : Value := .int .u8 0
theorem bc_zero : byteCells z64 = List.replicate 64 z0 := by kernel_rfl
theorem scs_zero : ∀ n, scs (List.replicate n z64) = List.replicate (n * 64) z0
  | 0 => rfl
  | n + 1 => by
    rw [List.replicate_succ]
    simp only [scs, scs_zero n, bc_zero]
    rw [List.replicate_append_replicate, show 64 + n * 64 = (n + 1) * 64 by omega]
theorem made_rep (m n : Nat) (hm : 0 < m) (z : Value) : madeCells (List.replicate m z).toArray n = (List.replicate n z).toArray := by
  apply Array.ext_getElem?
  intro j
  unfold madeCells
  have h64 : j % m < m := Nat.mod_lt _ hm
  by_cases hj : j < n
  · simp [hj, h64]
  · simp [hj]
theorem made_zero (n : Nat) : madeCells (List.replicate 64 z0).toArray (n * 64) = (scs (List.replicate n z64)).toArray := by
  rw [scs_zero]
  exact made_rep 64 (n * 64) (by omega) z0
theorem info64 : (Tryz.prog.info? 154).map (fun i => (i.zero, i.size, i.bytes)) = some (some (.agg (List.replicate 64 z0).toArray), 64, 64) := by kernel_rfl
theorem run_make64 (n : Nat) (hn : n ≤ 256) (w : World) : (Instr.makeSlice 128 (.int .i64 (n : Int)) (.int .i64 (n : Int))).run Tryz.prog w = .ok (.slice (some ⟨w.heap.size, 0, none⟩) n n) (w.alloc (.cells (scs (List.replicate n z64)).toArray 154)) := by
  obtain ⟨i, hi, hzz⟩ := Option.map_eq_some_iff.1 info64
  simp only [Prod.mk.injEq] at hzz
  obtain ⟨hz, hs, hb⟩ := hzz
  have hr := run_make (P := Tryz.prog) w 128 154 i _ Tryz.underlying128 hi hz .i64 .i64 n n (by omega) (Int.le_refl _) (by rw [hb]; omega) (by omega)
  simp only [Int.toNat_natCast, hs, Value.cells, made_zero] at hr
  exact hr
theorem SecIn.made (w : World) (n : Nat) (t : TypeId) : SecIn (w.alloc (.cells (scs (List.replicate n z64)).toArray t)) w.heap.size (List.replicate n z64) := by
  refine SecIn.of (fun j v hv => ?_) ?_ (rep_all n)
  · rw [World.cell?_alloc_at _ _ _ _ rfl, Nat.zero_add]
    simpa using hv
  · exact there_new w _ t _ (by rw [List.size_toArray, scs_len _ (rep_all n)])
def mc (x1 x2 N : Nat) : Array Value := #[.int .i64 0, .int .i64 0, .int .i64 0, .int .i64 0, .int .i32 0, .int .u32 0, .int .u32 0, .int .u32 0, .int .i32 0, .int .i32 0, .slice (some ⟨x1, 0, none⟩) N N, .slice (some ⟨x2, 0, none⟩) N N, .slice none 0 0, .bool false]
theorem MemIn.made (w : World) (N : Nat) (h1 : 1 ≤ N) (h2 : N ≤ 256) (Z : Array Value) (hZ : ∀ W : World, SecIn (W.alloc (.cells Z 154)) W.heap.size (List.replicate N z64)) (x1 x2 : Nat) (hx : (x1 = w.heap.size ∧ x2 = w.heap.size + 1) ∨ (x1 = w.heap.size + 1 ∧ x2 = w.heap.size)) :
    MemIn (((w.alloc (.cells Z 154)).alloc (.cells Z 154)).alloc (.cells (mc x1 x2 N) 131)).drew (w.heap.size + 1 + 1) x1 x2 (.slice none 0 0) (nw N) 0 0 := by
  obtain ⟨W, hW⟩ : ∃ W, W = (w.alloc (.cells Z 154)).alloc (.cells Z 154) := ⟨_, rfl⟩
  have hs : W.heap.size = w.heap.size + 1 + 1 := by rw [hW]; simp
  have s1 : SecIn W w.heap.size (List.replicate N z64) := by rw [hW]; exact (hZ w).sp (((Kp.refl _).alloc _).sp []) (by simp)
  have s2 : SecIn W (w.heap.size + 1) (List.replicate N z64) := by
    have := hZ (w.alloc (.cells Z 154))
    rw [← hW] at this
    simpa using this
  rw [← hW, ← hs]
  have hc : ∀ i, i < 14 → (W.alloc (.cells (mc x1 x2 N) 131)).drew.cell? ⟨W.heap.size, i, none⟩ = (mc x1 x2 N)[i]? := fun i _ => World.cell?_alloc_at _ _ _ i rfl
  have hk : Kp W (W.alloc (.cells (mc x1 x2 N) 131)).drew := ((Kp.refl W).alloc _).drew
  have hl : (nw N).las.length = N := by simp [nw]
  have sn : SecIn (W.alloc (.cells (mc x1 x2 N) 131)).drew x1 (List.replicate N z64) := by
    rcases hx with ⟨rfl, _⟩ | ⟨rfl, _⟩
    · exact s1.sp (hk.sp []) (by simp)
    · exact s2.sp (hk.sp []) (by simp)
  have sl : SecIn (W.alloc (.cells (mc x1 x2 N) 131)).drew x2 (List.replicate N z64) := by
    rcases hx with ⟨_, rfl⟩ | ⟨_, rfl⟩
    · exact s2.sp (hk.sp []) (by simp)
    · exact s1.sp (hk.sp []) (by simp)
  refine ⟨by show W.heap.size < (W.alloc _).heap.size; simp, fun j hj => ?_, hc 4 (by omega), hc 6 (by omega), hc 7 (by omega), hc 8 (by omega), by rw [hl]; exact hc 10 (by omega), by rw [hl]; exact hc 11 (by omega), hc 12 (by omega), hc 13 (by omega), fun o => World.frozen?_alloc_at _ _ _ o rfl, sn, sl, RowIn.nil _, by omega, by omega, by omega, fun g hg => (by cases hg), Fine.nw N h1 h2⟩
  rw [hc j (by omega)]
  have : j = 0 ∨ j = 1 ∨ j = 2 ∨ j = 3 := by omega
  rcases this with rfl | rfl | rfl | rfl <;> rfl
set_option maxRecDepth 100000 in
set_option maxHeartbeats 1000000 in
theorem new_any (k : Int) (w : World) : Calls Tryz.prog 46 #[.int .i64 k] w fun e w' => ∃ b bn bl, e = .returned (.pointer (some ⟨b, 0, none⟩)) ∧ MemIn w' b bn bl (.slice none 0 0) (nw (nwN k)) 0 0 ∧ Kp w w' ∧ w.heap.size ≤ b ∧ w.heap.size ≤ bn ∧ w.heap.size ≤ bl := by
  have hmin := @imin Tryz.prog
  have hmax := @imax Tryz.prog
  obtain ⟨N, hN⟩ : ∃ N, N = nwN k := ⟨_, rfl⟩
  have e1 : min (max k 1) 256 = (N : Int) := by rw [hN]; unfold nwN; omega
  have e2 : 1 ≤ N := by omega
  have e3 : N ≤ 256 := by omega
  rw [← hN]
  clear hN
  have hmk := run_make64 N e3
  obtain ⟨Z, hZ⟩ : ∃ Z, Z = (scs (List.replicate N z64)).toArray := ⟨_, rfl⟩
  rw [← hZ] at hmk
  have HZ : Hid (∀ W : World, SecIn (W.alloc (.cells Z 154)) W.heap.size (List.replicate N z64)) := fun W => by rw [hZ]; exact SecIn.made W N _
  clear hZ
  go_enter Tryz.func46, Tryz.ntmps46
  go_wp2_with fail
  go_region
  · have hM := MemIn.made w N e2 e3 Z HZ.out w.heap.size (w.heap.size + 1) (.inl ⟨rfl, rfl⟩)
    unfold mc at hM
    have hK := ((((Kp.refl w).alloc (.cells Z 154)).alloc (.cells Z 154)).alloc (.cells (mc w.heap.size (w.heap.size + 1) N) 131)).drew
    clear hmk e1
    go_wp2
    go_ret
    exact ⟨_, _, _, rfl, hM, hK, by omega, by omega, by omega⟩
  · have hM := MemIn.made w N e2 e3 Z HZ.out (w.heap.size + 1) w.heap.size (.inr ⟨rfl, rfl⟩)
    unfold mc at hM
    have hK := ((((Kp.refl w).alloc (.cells Z 154)).alloc (.cells Z 154)).alloc (.cells (mc (w.heap.size + 1) w.heap.size N) 131)).drew
    clear hmk e1
    go_wp2
    go_ret
    exact ⟨_, _, _, rfl, hM, hK, by omega, by omega, by omega⟩

end Go.Proofs.YtinpkfdmellleaaGreat

namespace Go.Proofs.YtinpkfdmellleaaGreat
open Go.RowKit Plain
set_option linter.unusedVariables false

theorem Sp.bbl {w w' : World} {b bn bl : Nat} {rv : Value} (h : Sp [b, bl] w w') : Sp (blk b bn bl rv) w w' := h.mono (fun t ht => by
  simp at ht
  rcases ht with rfl | rfl
  · exact b_mem _ _ _ _
  · exact bl_mem _ _ _ _)
set_option maxRecDepth 100000 in
theorem flush_any {w : World} {b bn bl : Nat} {rv : Value} {S : MS} (h : MemIn w b bn bl rv S 0 0) : Calls Tryz.prog 139 #[.pointer (some ⟨b, 0, none⟩)] w fun e w' => e = .returned (.int .i64 (flE S)) ∧ Md w w' b bn bl rv (fl S) := by
  cases hd : S.dead with
  | true =>
    rw [show flE S = 22 from if_pos hd, show fl S = S from if_pos hd]
    go_enter_defers Tryz.func139, Tryz.ntmps139
    go_wp2_with fail
    refine (lock_any h).mono ?_
    rintro e w1 ⟨rfl, h1, k1⟩
    have cD := h1.cD
    rw [hd] at cD
    go_wp2_with fail
    refine leaves_cons (f := 55) (args := #[.pointer (some ⟨b, 4, none⟩)]) (by simp) (by simp [go_sem]) ?_
    refine (unlock_any h1 .returning).mono ?_
    rintro e u' w2 ⟨rfl, rfl, h2, k2⟩
    exact ⟨_, results_tmp rfl _ _ _, rfl, Md.same h2 (k1.trans k2).b⟩
  | false =>
    rw [show flE S = 0 from if_neg (by simp [hd]), show fl S = ⟨S.now, pl S.las S.row, [], S.dead, up S.c 2⟩ from if_neg (by simp [hd])]
    go_enter_defers Tryz.func139, Tryz.ntmps139
    go_wp2_with fail
    refine (lock_any h).mono ?_
    rintro e w1 ⟨rfl, h1, k1⟩
    have cD := h1.cD
    rw [hd] at cD
    go_wp2_with fail
    refine (settle_any h1).mono ?_
    rintro e w2 ⟨rfl, h2, k2⟩
    go_wp2_with fail
    refine (count_any h2 2 (by omega)).mono ?_
    rintro e w3 ⟨⟨v, rfl⟩, h3, k3⟩
    go_wp2_with fail
    refine leaves_cons (f := 55) (args := #[.pointer (some ⟨b, 4, none⟩)]) (by simp) (by simp [go_sem]) ?_
    refine (unlock_any h3 .returning).mono ?_
    rintro e u' w4 ⟨rfl, rfl, h4, k4⟩
    exact ⟨_, results_tmp rfl _ _ _, rfl, _, h4, ((k1.b.trans k2.bbl).trans k3.b).trans k4.b, Nw.none _ _ _ _ _⟩

/-! ### clear -/
theorem run_clear (w : World) (ty : TypeId) (g n c : Nat) (hn : 1 ≤ n) (ht : w.there g 0 (n * 64)) :
    (Builtin.clear_ #[128] ty #[.slice (some ⟨g, 0, none⟩) n c]).run Tryz.prog w = .ok (.tuple #[]) (w.setCells g 0 (scs (List.replicate n z64))) := by
  have hl := scs_len _ (rep_all n)
  rw [List.length_replicate] at hl
  have hst := run_storeCells_cells (P := Tryz.prog) g 0 (scs (List.replicate n z64)) 0 w (fun j hj => by rw [hl] at hj; simpa using (ht j hj).1) (fun j hj => by rw [hl] at hj; simpa using (ht j hj).2) (scs_one _)
  have hz : ∀ w, (zeroValue 154).run Tryz.prog w = .ok (.agg (List.replicate 64 z0).toArray) w := fun w => Tryz.zeroValue154 w
  have hm : (Builtin.zeroCells (List.replicate 64 z0).toArray n).toList = scs (List.replicate n z64) := by
    have := made_zero n
    unfold madeCells at this
    unfold Builtin.zeroCells
    rw [show (List.replicate 64 z0).toArray.size = 64 from rfl] at this ⊢
    rw [this]
  obtain ⟨n, rfl⟩ : ∃ m, n = m + 1 := ⟨n - 1, by omega⟩
  simp only [Nat.add_zero] at hst
  generalize hZ : scs (List.replicate (n + 1) z64) = ZL at *
  generalize hY : (List.replicate 64 z0).toArray = Y at *
  simp [Builtin.clear_, run_underlying Tryz.underlying128, hz, Value.cells, hm, hst]
theorem wpList_clear_run {w : World} {ops : Array Oper} {rest : List Oper} {o : Oper} {a : Act} {Q : Exit → Act → World → Prop} (hgd : o.guard = none) (d : Operand) (dT : TypeId)
    (ho : o.op = .call { callee := .builtin .clear, args := #[d], argTypes := #[dT] }) (dv r : Value) (w' : World) (hd : a.eval d = dv)
    (hrun : (Builtin.clear_ #[dT] o.type #[dv]).run Tryz.prog w = .ok r w') (h : wpList Tryz.prog ops Q rest (a.put o.dst r) w') : wpList Tryz.prog ops Q (o :: rest) a w := by
  refine wpList_plain hgd fun K hK' => ?_
  unfold Oper.wp
  simp [execOp, ho, resolve, invoke, builtin, hd, hrun, Result.andThen]
  exact hK' _ _ h
set_option maxRecDepth 100000 in
theorem replace_any {w : World} {b bn bl : Nat} {rv : Value} {S : MS} (h : MemIn w b bn bl rv S 0 0) : Calls Tryz.prog 83 #[.pointer (some ⟨b, 0, none⟩)] w fun e w' => e = .returned (.tuple #[]) ∧ Md w w' b bn bl rv (rp S) := by
  go_enter_defers Tryz.func83, Tryz.ntmps83
  go_wp2_with fail
  refine (lock_any h).mono ?_
  rintro e w1 ⟨rfl, h1, k1⟩
  have cD := h1.cD
  have cR := h1.cR
  have z13 := h1.z 13
  have z12 := h1.z 12
  have cN := h1.cN
  have cL := h1.cL
  have h3 := (h1.death false).row (Sp.refl _ _) (.slice none 0 0) [] (RowIn.nil _) (fun g hg => by cases hg) (fun p hp => by cases hp)
  have hn : S.now.length = S.las.length := h.fine.nn
  have hn1 := h.fine.n1
  obtain ⟨W, hW⟩ : ∃ W, W = (w1.setCell ⟨b, 13, none⟩ (.bool false)).setCell ⟨b, 12, none⟩ (.slice none 0 0) := ⟨_, rfl⟩
  rw [← hW] at h3
  have kW : Sp [b] w W := by rw [hW]; exact (k1.set b 13 (by simp) _).set b 12 (by simp) _
  have HW : Hid (W = (w1.setCell ⟨b, 13, none⟩ (.bool false)).setCell ⟨b, 12, none⟩ (.slice none 0 0)) := hW
  clear hW
  have r1 := run_clear W 0 bn S.las.length S.las.length hn1 (by have := h3.sn.t; simp only [hn] at this; exact this)
  have s1 : Sp [bn] W (W.setCells bn 0 (scs (List.replicate S.las.length z64))) := Sp.setCells bn (by simp) _ _ _ (Sp.refl _ _)
  have h4 := h3.nows s1 (List.replicate S.las.length z64) (h3.sn.over _ (by simp [hn]) (rep_all _)) (by simp)
  obtain ⟨W1, hW1⟩ : ∃ W1, W1 = W.setCells bn 0 (scs (List.replicate S.las.length z64)) := ⟨_, rfl⟩
  rw [← hW1] at r1 s1 h4
  rw [HW.out] at r1
  clear hW1
  have r2 := run_clear W1 0 bl S.las.length S.las.length hn1 h4.sl.t
  have s2 : Sp [bl] W1 (W1.setCells bl 0 (scs (List.replicate S.las.length z64))) := Sp.setCells bl (by simp) _ _ _ (Sp.refl _ _)
  have h5 := h4.lasts s2 (List.replicate S.las.length z64) (h4.sl.over _ (by simp) (rep_all _)) (by simp)
  obtain ⟨W2, hW2⟩ : ∃ W2, W2 = W1.setCells bl 0 (scs (List.replicate S.las.length z64)) := ⟨_, rfl⟩
  rw [← hW2] at r2 s2 h5
  clear hW2
  have cL2 := h4.cL
  simp only at cL2
  have hcnt := count_any h5 3 (by omega)
  have R1 := hid r1
  have R2 := hid r2
  clear r1 r2 h1 h3 HW
  go_wp2_with (first | refine wpList_clear_run rfl _ 128 rfl _ _ W1 rfl R1.out ?_ | refine wpList_clear_run rfl _ 128 rfl _ _ W2 rfl R2.out ?_)
  refine hcnt.mono ?_
  rintro e w3 ⟨⟨v, rfl⟩, h6, k6⟩
  go_wp2_with fail
  refine leaves_cons (f := 55) (args := #[.pointer (some ⟨b, 4, none⟩)]) (by simp) (by simp [go_sem]) ?_
  refine (unlock_any h6 .returning).mono ?_
  rintro e u' w4 ⟨rfl, rfl, h7, k7⟩
  exact ⟨_, results_none rfl _ _ _, rfl, _, h7, (((kW.b.trans s1.bn).trans s2.bl).trans k6.b).trans k7.b, Nw.none _ _ _ _ _⟩

end Go.Proofs.YtinpkfdmellleaaGreat

namespace Go.Proofs.YtinpkfdmellleaaGreat
open Go.RowKit Plain
set_option linter.unusedVariables false

theorem step_of {ops : Array Oper} {o : Oper} {a : Act} {w : World} {K : Act → World → Prop} {Q : Exit → Act → World → Prop} {E : Prop} (hgd : o.guard = none) (h : Oper.wp Tryz.prog o a w K Q) : if Region.wanted o (yielded ops a.tmps) = true then Oper.wp Tryz.prog o a w K Q else E := by
  rw [if_pos (by simp [Region.wanted, hgd])]
  exact h
section
variable {P : Program} {ops : Array Oper} {Q : Exit → Act → World → Prop} {md : Region.Mode} {S : World → Prop}
/-- one alone may come up. -/
theorem held_one {fuel : Nat} {listed : Array Bool} {a : Act} {w : World} (i : Nat) (o : Oper) (hr : Region.ready md ops listed = [i]) (ho : ops[i]? = some o) (hg : o.guard = none)
    (h : ∀ K' : Act → World → Prop, (∀ a w, S w → wpAnyH P md ops Q S fuel (listed.setIfInBounds i true) a w → K' a w) → Oper.wp P o a w K' Q) : wpAnyH P md ops Q S (fuel + 1) listed a w := by
  refine wpAnyH_all hr (by simp) (fun k hk => ?_)
  obtain rfl : k = i := by simpa using hk
  exact wpOp_step ho (fun K' hK => by rw [if_pos (by simp [Region.wanted, hg])]; exact h K' (fun a w h1 h2 => hK a w ⟨h1, h2⟩))
/-- two may come up. -/
theorem held_two {fuel : Nat} {listed : Array Bool} {a : Act} {w : World} (i j : Nat) (o o' : Oper) (hr : Region.ready md ops listed = [i, j]) (ho : ops[i]? = some o) (ho' : ops[j]? = some o') (hg : o.guard = none) (hg' : o'.guard = none)
    (h : ∀ K' : Act → World → Prop, (∀ a w, S w → wpAnyH P md ops Q S fuel (listed.setIfInBounds i true) a w → K' a w) → Oper.wp P o a w K' Q)
    (h' : ∀ K' : Act → World → Prop, (∀ a w, S w → wpAnyH P md ops Q S fuel (listed.setIfInBounds j true) a w → K' a w) → Oper.wp P o' a w K' Q) : wpAnyH P md ops Q S (fuel + 1) listed a w := by
  refine wpAnyH_all hr (by simp) (fun k hk => ?_)
  have : k = i ∨ k = j := by simpa using hk
  rcases this with rfl | rfl
  · exact wpOp_step ho (fun K' hK => by rw [if_pos (by simp [Region.wanted, hg])]; exact h K' (fun a w h1 h2 => hK a w ⟨h1, h2⟩))
  · exact wpOp_step ho' (fun K' hK => by rw [if_pos (by simp [Region.wanted, hg'])]; exact h' K' (fun a w h1 h2 => hK a w ⟨h1, h2⟩))
end
theorem wp_load_w {o : Oper} {a : Act} {w : World} {K : Act → World → Prop} {Q : Exit → Act → World → Prop} (x : Operand) (ho : o.op = .load 164 x) (g off : Nat) (hx : a.eval x = .pointer (some ⟨g, off, none⟩)) (p : Nat × ByteArray) (hz : p.2.size = 64) (hr : w.rangeAt g off (wc p))
    (h : K (a.put o.dst (.agg (wc p).toArray)) w) : Oper.wp Tryz.prog o a w K Q :=
  wp_load_mid 164 x ho g off hx (wc p) _ hr Tryz.underlying164 rfl (by rw [wc_len, hz]; kernel_rfl) h
theorem wp_load_one {o : Oper} {a : Act} {w : World} {K : Act → World → Prop} {Q : Exit → Act → World → Prop} (t : TypeId) (x : Operand) (ho : o.op = .load t x) (ha : ∀ w, (isAgg t).run Tryz.prog w = .ok false w) (g off : Nat) (v : Value) (hx : a.eval x = .pointer (some ⟨g, off, none⟩)) (hr : w.cell? ⟨g, off, none⟩ = some v)
    (h : K (a.put o.dst v) w) : Oper.wp Tryz.prog o a w K Q := by
  unfold Oper.wp execOp
  have hl : (load ⟨g, off, none⟩).run Tryz.prog w = .ok v w := by simp [load, Sem.run, hr, go_sem]
  simp only [ho, hx, Instr.loadAt, Instr.sureAddr, Sem.run_bind, Sem.run_pure, Result.andThen_ok, loadVar, ha, Bool.false_eq_true, if_false, hl]
  exact h
theorem wp_store_one {o : Oper} {a : Act} {w : World} {K : Act → World → Prop} {Q : Exit → Act → World → Prop} (t : TypeId) (x y : Operand) (ho : o.op = .store t x y) (hs : (Tryz.prog.info? t).map (·.size) = some 1) (g off : Nat) (v : Value) (hx : a.eval x = .pointer (some ⟨g, off, none⟩)) (hy : a.eval y = v) (h1 : v.oneCell' = true) (hc : (w.cell? ⟨g, off, none⟩).isSome = true) (hz : w.frozen? ⟨g, off, none⟩ = false)
    (h : K (a.put o.dst undef) (w.setCell ⟨g, off, none⟩ v)) : Oper.wp Tryz.prog o a w K Q := by
  obtain ⟨u, hu⟩ := Option.isSome_iff_exists.1 hc
  have hcs : v.cells = #[v] := by cases v <;> first | rfl | (cases h1)
  have hst : (store ⟨g, off, none⟩ v).run Tryz.prog w = .ok () (w.setCell ⟨g, off, none⟩ v) := by
    rw [run_store Tryz.prog w _ v _ h1, hu]
    simp [hz]
  cases hq : Tryz.prog.info? t with
  | none => simp [hq] at hs
  | some i =>
    have hi : i.size = 1 := by simpa [hq] using hs
    have hsv : (storeVar t ⟨g, off, none⟩ v).run Tryz.prog w = .ok () (w.setCell ⟨g, off, none⟩ v) := by
      simp [storeVar, sizeOf, typeInfo, hq, hi, hcs, storeCells, Addr.add_mid, hst]
    unfold Oper.wp execOp
    simp only [ho, hx, hy, Instr.storeAt, Instr.sureAddr, Sem.run_bind, Sem.run_pure, Result.andThen_ok, hsv]
    exact h
theorem info99 : (Tryz.prog.info? 164).map (fun i => (i.zero, i.size, i.bytes)) = some (some (.agg Tryz.zeroCells164), 65, 72) := by kernel_rfl
theorem run_build_w (p : Nat × ByteArray) (hz : p.2.size = 64) (w : World) : (Instr.buildSlice 129 1 #[(0, .agg (wc p).toArray)]).run Tryz.prog w = .ok (.slice (some ⟨w.heap.size, 0, none⟩) 1 1) (w.alloc (.cells (wc p).toArray 164)) := by
  have hl : (wc p).toArray.size = 65 := by rw [List.size_toArray, wc_len, hz]
  obtain ⟨i, hi, hzz⟩ := Option.map_eq_some_iff.1 info99
  simp only [Prod.mk.injEq] at hzz
  obtain ⟨hz0, hs, hby⟩ := hzz
  refine run_buildSlice (P := Tryz.prog) w 129 164 1 _ (wc p).toArray i _ Tryz.underlying129 hi hz0 (by rw [hs]; omega) (by rw [hs]; omega) ?_
  rw [hs]
  have := Go.Great.fill_whole (s := 65) (by omega) [.agg (wc p).toArray] ((Array.range (1 * 65)).map ((Value.agg Tryz.zeroCells164).cells[· % (Value.agg Tryz.zeroCells164).cells.size]!)) (fun v hv => by rw [List.mem_singleton.1 hv]; exact hl) (by simp)
  simpa [Value.cells] using this
theorem wp_buildW {o : Oper} {a : Act} {w : World} {K : Act → World → Prop} {Q : Exit → Act → World → Prop} (x : Operand) (ho : o.op = .buildSlice 129 1 #[(0, x)]) (p : Nat × ByteArray) (hz : p.2.size = 64) (hx : a.eval x = .agg (wc p).toArray)
    (h : ∀ N w', Kp w w' → w'.rangeAt N 0 (wc p) → w.heap.size ≤ N → K (a.put o.dst (.slice (some ⟨N, 0, none⟩) 1 1)) w') : Oper.wp Tryz.prog o a w K Q := by
  have hr := run_build_w p hz w
  have hK := h w.heap.size (w.alloc (.cells (wc p).toArray 164)) ((Kp.refl w).alloc _) (fun j v hv => by rw [World.cell?_alloc_at _ _ _ _ rfl, Nat.zero_add]; simpa using hv) (Nat.le_refl _)
  unfold Oper.wp execOp
  simp only [ho]
  simp [hx, hr]
  exact hK
theorem RowIn.one {w : World} {v : Value} {r : List (Nat × ByteArray)} (h : RowIn w v r) : v.oneCell' = true := by
  obtain ⟨a, cap, rfl, _⟩ := h.len
  rfl
theorem run_append_w {w : World} (ty : TypeId) (v : Value) (r : List (Nat × ByteArray)) (hr : RowIn w v r) (k c : Nat) (p : Nat × ByteArray) (hz : p.2.size = 64) (hk : w.rangeAt k 0 (wc p)) (hb : r.length < 1000000) :
    ∃ v' w', (Builtin.append_ #[129, 129] ty #[v, .slice (some ⟨k, 0, none⟩) 1 c]).run Tryz.prog w = .ok v' w' ∧ RowIn w' v' (r ++ [p]) ∧ w.grownBy w' v.ownBlock ∧ (v'.ownBlock = v.ownBlock ∨ v'.ownBlock = some w.heap.size) := by
  obtain ⟨i, hi, hzz⟩ := Option.map_eq_some_iff.1 info99
  simp only [Prod.mk.injEq] at hzz
  obtain ⟨hz0, hs, hby⟩ := hzz
  obtain ⟨v', w', h1, h2, h3, _, h4⟩ := run_append_own_at (P := Tryz.prog) w 0 129 ty 164 i _ 65 72 Tryz.underlying129 hi hz0 hs hby zero_len (by omega) v r.length (wcs r) hr.o ⟨k, 0, none⟩ 1 c (wc p) (by rw [wc_len, hz]) (fun j u hu => by rw [Addr.add_mid]; exact hk j u hu) (wc_one p) (by unfold maxLen; omega) (by omega) (Nat.zero_le _)
  refine ⟨v', w', h1, ⟨?_, fun q hq => ?_⟩, h3, h4⟩
  · rw [List.length_append, wcs_app]
    simpa [wcs] using h2
  · rcases List.mem_append.1 hq with h | h
    · exact hr.z q h
    · rw [List.mem_singleton.1 h]; exact hz
theorem wp_append_w {o : Oper} {a : Act} {w : World} {K : Act → World → Prop} {Q : Exit → Act → World → Prop} (s x : Operand)
    (ho : o.op = .call { callee := .builtin .append, args := #[s, x], argTypes := #[129, 129] }) (v : Value) (r : List (Nat × ByteArray)) (k c : Nat) (p : Nat × ByteArray) (hs : a.eval s = v) (hx : a.eval x = .slice (some ⟨k, 0, none⟩) 1 c) (hr : RowIn w v r) (hz : p.2.size = 64) (hk : w.rangeAt k 0 (wc p)) (hb : r.length < 1000000)
    (cont : ∀ v' w', RowIn w' v' (r ++ [p]) → w.grownBy w' v.ownBlock → (v'.ownBlock = v.ownBlock ∨ v'.ownBlock = some w.heap.size) → K (a.put o.dst v') w') :
    Oper.wp Tryz.prog o a w K Q := by
  obtain ⟨v', w', hrun, h1, h2, h3⟩ := run_append_w o.type v r hr k c p hz hk hb
  unfold Oper.wp
  simp [execOp, ho, resolve, invoke, builtin, hs, hx, hrun, Result.andThen]
  exact cont v' w' h1 h2 h3
theorem grown_sp {w w' : World} {v : Value} (h : w.grownBy w' v.ownBlock) : Sp v.ownBlock.toList w w' := ⟨h.os, h.tape, h.output, h.size, fun k hk hn => h.block k hk (fun e => hn (by rw [← e]; simp))⟩
theorem Vr.fill {w : World} {k i : Nat} {z : ByteArray} (h : Vr w k (i, z)) (s : ByteArray) (hs : s.size = 64) : Vr (w.setCells k 1 (byteCells s)) k (i, s) := by
  have ht : w.there k 1 64 := fun j hj => by
    have := h.t (1 + j) (by omega)
    rwa [Nat.zero_add] at this
  have hr := World.rangeAt_setCells_same w k 1 (byteCells s) (by rw [bc_len, hs]; exact ht)
  refine ⟨fun j v hv => ?_, World.there_setCells h.t k 1 _, hs, Nat.lt_of_lt_of_le h.hk (Sp.setCells (T := [k]) k (by simp) _ 1 w (Sp.refl _ _)).size⟩
  cases j with
  | zero =>
    have e : v = .int .i64 (i : Int) := by simpa [wc] using hv.symm
    rw [e, World.cell?_setCells_out k (byteCells s) 1 w ⟨k, 0 + 0, none⟩ (fun _ _ => .inl (by show 0 + 0 < 1; omega))]
    exact h.at
  | succ j =>
    have := hr j v (by simpa [wc] using hv)
    rw [show 0 + (j + 1) = 1 + j by omega]
    exact this
theorem Vr.there1 {w : World} {k : Nat} {p : Nat × ByteArray} (h : Vr w k p) : w.there k 1 64 := fun j hj => by
  have := h.t (1 + j) (by omega)
  rwa [Nat.zero_add] at this
theorem built99 (i : Nat) : Tryz.prog.built 164 [(0, .int .i64 (i : Int))] = some (wc (i, z64)).toArray := by kernel_rfl

end Go.Proofs.YtinpkfdmellleaaGreat

namespace Go.Proofs.YtinpkfdmellleaaGreat
open Go.RowKit Plain
set_option linter.unusedVariables false

/-! ### m.row = append(m.row, w): a statement that draws its order -/
def rop0 : Oper := { dst := some 33, op := Op.move (Operand.tmp 0), type := 41, pos := "member.go:82", after := #[], guard := none }
def rop1 : Oper := { dst := some 34, op := Op.move (Operand.tmp 0), type := 41, pos := "member.go:82", after := #[], guard := none }
def rop2 : Oper := { dst := some 35, op := Op.nilCheck (Operand.tmp 34), type := 0, pos := "member.go:82", after := #[{ on := 1, ground := Ground.data }], guard := none }
def rop3 : Oper := { dst := some 36, op := Op.fieldAddr 131 (Operand.tmp 35) 4, type := 0, pos := "member.go:82", after := #[{ on := 2, ground := Ground.data }], guard := none }
def rop4 : Oper := { dst := some 37, op := Op.load 129 (Operand.tmp 36), type := 129, pos := "member.go:82", after := #[{ on := 3, ground := Ground.data }], guard := none }
def rop5 : Oper := { dst := some 38, op := Op.load 164 (Operand.tmp 8), type := 164, pos := "member.go:82", after := #[], guard := none }
def rop6 : Oper := { dst := some 39, op := Op.buildSlice 129 1 #[(0, Operand.tmp 38)], type := 129, pos := "member.go:82", after := #[{ on := 5, ground := Ground.data }], guard := none }
def rop7 : Oper := { dst := some 40, op := Op.call { callee := Callee.builtin Builtin.append, args := #[Operand.tmp 37, Operand.tmp 39], argTypes := #[129, 129] }, type := 129, pos := "member.go:82", after := #[{ on := 4, ground := Ground.data }, { on := 6, ground := Ground.data }], guard := none }
def rop8 : Oper := { dst := some 41, op := Op.nilCheck (Operand.tmp 33), type := 0, pos := "member.go:82", after := #[{ on := 0, ground := Ground.data }, { on := 0, ground := Ground.phase }, { on := 1, ground := Ground.phase }, { on := 2, ground := Ground.phase }, { on := 3, ground := Ground.phase }, { on := 4, ground := Ground.phase }, { on := 5, ground := Ground.phase }, { on := 6, ground := Ground.phase }, { on := 7, ground := Ground.phase }], guard := none }
def rop9 : Oper := { dst := some 42, op := Op.fieldAddr 131 (Operand.tmp 41) 4, type := 0, pos := "member.go:82", after := #[{ on := 8, ground := Ground.data }, { on := 0, ground := Ground.phase }, { on := 1, ground := Ground.phase }, { on := 2, ground := Ground.phase }, { on := 3, ground := Ground.phase }, { on := 4, ground := Ground.phase }, { on := 5, ground := Ground.phase }, { on := 6, ground := Ground.phase }, { on := 7, ground := Ground.phase }], guard := none }
def rop10 : Oper := { dst := none, op := Op.store 129 (Operand.tmp 42) (Operand.tmp 40), type := 0, pos := "member.go:82", after := #[{ on := 9, ground := Ground.data }, { on := 7, ground := Ground.data }, { on := 7, ground := Ground.chain }, { on := 0, ground := Ground.phase }, { on := 1, ground := Ground.phase }, { on := 2, ground := Ground.phase }, { on := 3, ground := Ground.phase }, { on := 4, ground := Ground.phase }, { on := 5, ground := Ground.phase }, { on := 6, ground := Ground.phase }, { on := 7, ground := Ground.phase }], guard := none }
def rops : Array Oper := #[rop0, rop1, rop2, rop3, rop4, rop5, rop6, rop7, rop8, rop9, rop10]

theorem ev_same (a : Act) (d : Nat) (v : Value) (h : d < a.tmps.size) : (a.put (some d) v).eval (.tmp d) = v := by
  simp [Act.eval, Act.put, h]
theorem ev_ne (a : Act) (d t : Nat) (v : Value) (h : d ≠ t) : (a.put (some d) v).eval (.tmp t) = a.eval (.tmp t) := by
  simp [Act.eval, Act.put, h]
theorem sz_put (a : Act) (d : Nat) (v : Value) : (a.put (some d) v).tmps.size = a.tmps.size := by simp [Act.put]
theorem put_comm (a : Act) (d t : Nat) (v u : Value) (h : d ≠ t) : (a.put (some d) v).put (some t) u = (a.put (some t) u).put (some d) v := by
  simp only [Act.put]
  rw [Array.setIfInBounds_comm _ _ h]
theorem y_move {ops : Array Oper} {S : World → Prop} {o : Oper} {a : Act} (hg : o.guard = none) (x : Operand) (ho : o.op = .move x) (v : Value) (hx : a.eval x = v) : YieldsIf Tryz.prog ops S o v a :=
  .inl ⟨by simp [Region.wanted, hg], fun w _ => by unfold execOp; simp [ho, hx]⟩
theorem y_nil {ops : Array Oper} {S : World → Prop} {o : Oper} {a : Act} (hg : o.guard = none) (x : Operand) (ho : o.op = .nilCheck x) (p : Addr) (hx : a.eval x = .pointer (some p)) : YieldsIf Tryz.prog ops S o (.pointer (some p)) a :=
  .inl ⟨by simp [Region.wanted, hg], fun w _ => by unfold execOp; simp only [ho, hx]; rfl⟩
theorem y_row {ops : Array Oper} {S : World → Prop} {o : Oper} {a : Act} (hg : o.guard = none) (x : Operand) (ho : o.op = .fieldAddr 131 x 4) (b : Nat) (hx : a.eval x = .pointer (some ⟨b, 0, none⟩)) : YieldsIf Tryz.prog ops S o (.pointer (some ⟨b, 12, none⟩)) a :=
  .inl ⟨by simp [Region.wanted, hg], fun w _ => by unfold execOp; simp only [ho, hx]; go_simp⟩
set_option maxRecDepth 100000 in
set_option maxHeartbeats 1000000 in
theorem row_region {b bn bl K i : Nat} {s : ByteArray} {rv : Value} {S : MS} {x y : Int} {w4 : World} (M4 : MemIn w4 b bn bl rv S x y) (V4 : Vr w4 K (i, s)) (hs : s.size = 64) (hrl : S.row.length < 1000000) (hKr : K ∉ rv.ownBlock.toList) (hKb : K ≠ b)
    (A : Act) (sz : A.tmps.size = 57) (e0 : A.eval (.tmp 0) = .pointer (some ⟨b, 0, none⟩)) (e8 : A.eval (.tmp 8) = .pointer (some ⟨K, 0, none⟩)) (Q : Exit → Act → World → Prop)
    (hfin : ∀ N rv' w6, RowIn w6 rv' (S.row ++ [(i, s)]) → Sp rv.ownBlock.toList w4 w6 → (∀ g, rv'.ownBlock = some g → rv.ownBlock = some g ∨ w4.heap.size ≤ g) →
      Q .normal ((((((((((A.put (some 33) (.pointer (some ⟨b, 0, none⟩))).put (some 34) (.pointer (some ⟨b, 0, none⟩))).put (some 35) (.pointer (some ⟨b, 0, none⟩))).put (some 36) (.pointer (some ⟨b, 12, none⟩))).put (some 38) (.agg (wc (i, s)).toArray)).put (some 37) rv).put (some 39) (.slice (some ⟨N, 0, none⟩) 1 1)).put (some 40) rv').put (some 41) (.pointer (some ⟨b, 0, none⟩))).put (some 42) (.pointer (some ⟨b, 12, none⟩))) (w6.setCell ⟨b, 12, none⟩ rv')) :
    (Code.region 12 rops true).wp Tryz.prog Q A w4 := by
  have cR := M4.cR
  have hra := V4.r
  have hKb2 : K ∉ [b] := by simpa using hKb
  have hbr : b ∉ rv.ownBlock.toList := fun hm => (M4.n4 b (by simpa using hm)).1 rfl
  refine wp_region_noPanic ?_
  refine wp_region_held (S := fun W => W.rangeAt K 0 (wc (i, s))) (by kernel_rfl) ?_
  obtain ⟨W, hW⟩ : ∃ W, W = w4.drew := ⟨_, rfl⟩
  change wpAnyH _ _ _ _ _ 11 (Array.replicate 11 false) _ (World.drew _)
  rw [← hW]
  have kW : Kp w4 W := by rw [hW]; exact (Kp.refl w4).drew
  clear hW
  have sA := sz
  have e0A := e0
  have e8A := e8
  refine wpAnyH_take (i := 0) (oi := rop0) (v := (.pointer (some ⟨b, 0, none⟩))) (by rfl) (by kernel_rfl) (by kernel_rfl) (by kernel_rfl) (fun _ _ _ h => h) (y_move rfl _ rfl _ e0A) ((kW.sp []).range hra (by simp)) ?_
  show wpAnyH _ _ _ _ _ _ _ (A.put (some 33) (.pointer (some ⟨b, 0, none⟩))) _
  obtain ⟨A1, hA1⟩ : ∃ A1, A1 = A.put (some 33) (.pointer (some ⟨b, 0, none⟩)) := ⟨_, rfl⟩
  have sA1 : A1.tmps.size = 57 := by rw [hA1, sz_put]; exact sA
  have e33A1 : A1.eval (.tmp 33) = (.pointer (some ⟨b, 0, none⟩)) := by rw [hA1]; exact ev_same _ _ _ (by rw [sA]; omega)
  have e0A1 : A1.eval (.tmp 0) = (.pointer (some ⟨b, 0, none⟩)) := by rw [hA1, ev_ne _ _ _ _ (by omega)]; exact e0A
  have e8A1 : A1.eval (.tmp 8) = (.pointer (some ⟨K, 0, none⟩)) := by rw [hA1, ev_ne _ _ _ _ (by omega)]; exact e8A
  rw [← hA1]
  refine wpAnyH_take (i := 1) (oi := rop1) (v := (.pointer (some ⟨b, 0, none⟩))) (by rfl) (by kernel_rfl) (by kernel_rfl) (by kernel_rfl) (fun _ _ _ h => h) (y_move rfl _ rfl _ e0A1) ((kW.sp []).range hra (by simp)) ?_
  show wpAnyH _ _ _ _ _ _ _ (A1.put (some 34) (.pointer (some ⟨b, 0, none⟩))) _
  obtain ⟨A2, hA2⟩ : ∃ A2, A2 = A1.put (some 34) (.pointer (some ⟨b, 0, none⟩)) := ⟨_, rfl⟩
  have sA2 : A2.tmps.size = 57 := by rw [hA2, sz_put]; exact sA1
  have e34A2 : A2.eval (.tmp 34) = (.pointer (some ⟨b, 0, none⟩)) := by rw [hA2]; exact ev_same _ _ _ (by rw [sA1]; omega)
  have e33A2 : A2.eval (.tmp 33) = (.pointer (some ⟨b, 0, none⟩)) := by rw [hA2, ev_ne _ _ _ _ (by omega)]; exact e33A1
  have e8A2 : A2.eval (.tmp 8) = (.pointer (some ⟨K, 0, none⟩)) := by rw [hA2, ev_ne _ _ _ _ (by omega)]; exact e8A1
  rw [← hA2]
  refine wpAnyH_take (i := 2) (oi := rop2) (v := (.pointer (some ⟨b, 0, none⟩))) (by rfl) (by kernel_rfl) (by kernel_rfl) (by kernel_rfl) (fun _ _ _ h => h) (y_nil rfl _ rfl _ e34A2) ((kW.sp []).range hra (by simp)) ?_
  show wpAnyH _ _ _ _ _ _ _ (A2.put (some 35) (.pointer (some ⟨b, 0, none⟩))) _
  obtain ⟨A3, hA3⟩ : ∃ A3, A3 = A2.put (some 35) (.pointer (some ⟨b, 0, none⟩)) := ⟨_, rfl⟩
  have sA3 : A3.tmps.size = 57 := by rw [hA3, sz_put]; exact sA2
  have e35A3 : A3.eval (.tmp 35) = (.pointer (some ⟨b, 0, none⟩)) := by rw [hA3]; exact ev_same _ _ _ (by rw [sA2]; omega)
  have e33A3 : A3.eval (.tmp 33) = (.pointer (some ⟨b, 0, none⟩)) := by rw [hA3, ev_ne _ _ _ _ (by omega)]; exact e33A2
  have e8A3 : A3.eval (.tmp 8) = (.pointer (some ⟨K, 0, none⟩)) := by rw [hA3, ev_ne _ _ _ _ (by omega)]; exact e8A2
  rw [← hA3]
  refine wpAnyH_take (i := 3) (oi := rop3) (v := (.pointer (some ⟨b, 12, none⟩))) (by rfl) (by kernel_rfl) (by kernel_rfl) (by kernel_rfl) (fun _ _ _ h => h) (y_row rfl _ rfl b e35A3) ((kW.sp []).range hra (by simp)) ?_
  show wpAnyH _ _ _ _ _ _ _ (A3.put (some 36) (.pointer (some ⟨b, 12, none⟩))) _
  obtain ⟨A4, hA4⟩ : ∃ A4, A4 = A3.put (some 36) (.pointer (some ⟨b, 12, none⟩)) := ⟨_, rfl⟩
  have sA4 : A4.tmps.size = 57 := by rw [hA4, sz_put]; exact sA3
  have e36A4 : A4.eval (.tmp 36) = (.pointer (some ⟨b, 12, none⟩)) := by rw [hA4]; exact ev_same _ _ _ (by rw [sA3]; omega)
  have e33A4 : A4.eval (.tmp 33) = (.pointer (some ⟨b, 0, none⟩)) := by rw [hA4, ev_ne _ _ _ _ (by omega)]; exact e33A3
  have e8A4 : A4.eval (.tmp 8) = (.pointer (some ⟨K, 0, none⟩)) := by rw [hA4, ev_ne _ _ _ _ (by omega)]; exact e8A3
  rw [← hA4]
  refine wpAnyH_take (i := 5) (oi := rop5) (v := (.agg (wc (i, s)).toArray)) (by rfl) (by kernel_rfl) (by kernel_rfl) (by kernel_rfl) (fun _ _ _ h => h) (yieldsIf_load_mid (by rfl) 164 _ rfl K 0 e8A4 (wc (i, s)) _ (fun _ h => h) Tryz.underlying164 rfl (by rw [wc_len, hs]; kernel_rfl)) ((kW.sp []).range hra (by simp)) ?_
  show wpAnyH _ _ _ _ _ _ _ (A4.put (some 38) (.agg (wc (i, s)).toArray)) _
  obtain ⟨A5, hA5⟩ : ∃ A5, A5 = A4.put (some 38) (.agg (wc (i, s)).toArray) := ⟨_, rfl⟩
  have sA5 : A5.tmps.size = 57 := by rw [hA5, sz_put]; exact sA4
  have e38A5 : A5.eval (.tmp 38) = (.agg (wc (i, s)).toArray) := by rw [hA5]; exact ev_same _ _ _ (by rw [sA4]; omega)
  have e33A5 : A5.eval (.tmp 33) = (.pointer (some ⟨b, 0, none⟩)) := by rw [hA5, ev_ne _ _ _ _ (by omega)]; exact e33A4
  have e36A5 : A5.eval (.tmp 36) = (.pointer (some ⟨b, 12, none⟩)) := by rw [hA5, ev_ne _ _ _ _ (by omega)]; exact e36A4
  rw [← hA5]
  refine held_two 4 6 rop4 rop6 (by kernel_rfl) (by rfl) (by rfl) rfl rfl ?_ ?_
  · intro K' hK
    refine wp_load_one 129 _ rfl Tryz.isAgg129 b 12 rv e36A5 (kW.held cR) ?_
    refine hK _ _ ?_ ?_
    · exact ((kW.sp []).range hra (by simp))
    clear hK K'
    show wpAnyH _ _ _ _ _ _ _ (A5.put (some 37) rv) _
    obtain ⟨A6, hA6⟩ : ∃ A6, A6 = A5.put (some 37) rv := ⟨_, rfl⟩
    have sA6 : A6.tmps.size = 57 := by rw [hA6, sz_put]; exact sA5
    have e37A6 : A6.eval (.tmp 37) = rv := by rw [hA6]; exact ev_same _ _ _ (by rw [sA5]; omega)
    have e33A6 : A6.eval (.tmp 33) = (.pointer (some ⟨b, 0, none⟩)) := by rw [hA6, ev_ne _ _ _ _ (by omega)]; exact e33A5
    have e38A6 : A6.eval (.tmp 38) = (.agg (wc (i, s)).toArray) := by rw [hA6, ev_ne _ _ _ _ (by omega)]; exact e38A5
    rw [← hA6]
    refine held_one 6 rop6 (by kernel_rfl) (by rfl) rfl ?_
    intro K' hK
    refine wp_buildW _ rfl (i, s) hs e38A6 ?_
    intro N W2 kN hN hkN
    have kW2 : Kp w4 W2 := kW.trans kN
    refine hK _ _ ?_ ?_
    · exact ((kW2.sp []).range hra (by simp))
    clear hK K'
    show wpAnyH _ _ _ _ _ _ _ (A6.put (some 39) (.slice (some ⟨N, 0, none⟩) 1 1)) _
    obtain ⟨A7, hA7⟩ : ∃ A7, A7 = A6.put (some 39) (.slice (some ⟨N, 0, none⟩) 1 1) := ⟨_, rfl⟩
    have sA7 : A7.tmps.size = 57 := by rw [hA7, sz_put]; exact sA6
    have e39A7 : A7.eval (.tmp 39) = (.slice (some ⟨N, 0, none⟩) 1 1) := by rw [hA7]; exact ev_same _ _ _ (by rw [sA6]; omega)
    have e33A7 : A7.eval (.tmp 33) = (.pointer (some ⟨b, 0, none⟩)) := by rw [hA7, ev_ne _ _ _ _ (by omega)]; exact e33A6
    have e37A7 : A7.eval (.tmp 37) = rv := by rw [hA7, ev_ne _ _ _ _ (by omega)]; exact e37A6
    rw [← hA7]
    refine held_one 7 rop7 (by kernel_rfl) (by rfl) rfl ?_
    intro K' hK
    refine wp_append_w _ _ rfl rv S.row N 1 (i, s) e37A7 e39A7 (M4.rw.sp (kW2.sp []) (fun _ _ => by simp)) hs hN hrl ?_
    intro rv' w6 hr6 hg6 ho6
    refine hK _ _ ?_ ?_
    · exact (grown_sp hg6).range ((kW2.sp []).range hra (by simp)) hKr
    clear hK K'
    have k6 : Sp rv.ownBlock.toList w4 w6 := (kW2.sp _).trans (grown_sp hg6)
    have ho7 : ∀ g, rv'.ownBlock = some g → rv.ownBlock = some g ∨ w4.heap.size ≤ g := fun g hg => by
      rcases ho6 with h | h
      · left; rw [← h]; exact hg
      · right; rw [h] at hg; cases hg; exact kW2.size
    show wpAnyH _ _ _ _ _ _ _ (A7.put (some 40) rv') _
    obtain ⟨A8, hA8⟩ : ∃ A8, A8 = A7.put (some 40) rv' := ⟨_, rfl⟩
    have sA8 : A8.tmps.size = 57 := by rw [hA8, sz_put]; exact sA7
    have e40A8 : A8.eval (.tmp 40) = rv' := by rw [hA8]; exact ev_same _ _ _ (by rw [sA7]; omega)
    have e33A8 : A8.eval (.tmp 33) = (.pointer (some ⟨b, 0, none⟩)) := by rw [hA8, ev_ne _ _ _ _ (by omega)]; exact e33A7
    rw [← hA8]
    refine wpAnyH_take (i := 8) (oi := rop8) (v := (.pointer (some ⟨b, 0, none⟩))) (by rfl) (by kernel_rfl) (by kernel_rfl) (by kernel_rfl) (fun _ _ _ h => h) (y_nil rfl _ rfl _ e33A8) (k6.range hra hKr) ?_
    show wpAnyH _ _ _ _ _ _ _ (A8.put (some 41) (.pointer (some ⟨b, 0, none⟩))) _
    obtain ⟨A9, hA9⟩ : ∃ A9, A9 = A8.put (some 41) (.pointer (some ⟨b, 0, none⟩)) := ⟨_, rfl⟩
    have sA9 : A9.tmps.size = 57 := by rw [hA9, sz_put]; exact sA8
    have e41A9 : A9.eval (.tmp 41) = (.pointer (some ⟨b, 0, none⟩)) := by rw [hA9]; exact ev_same _ _ _ (by rw [sA8]; omega)
    have e40A9 : A9.eval (.tmp 40) = rv' := by rw [hA9, ev_ne _ _ _ _ (by omega)]; exact e40A8
    rw [← hA9]
    refine wpAnyH_take (i := 9) (oi := rop9) (v := (.pointer (some ⟨b, 12, none⟩))) (by rfl) (by kernel_rfl) (by kernel_rfl) (by kernel_rfl) (fun _ _ _ h => h) (y_row rfl _ rfl b e41A9) (k6.range hra hKr) ?_
    show wpAnyH _ _ _ _ _ _ _ (A9.put (some 42) (.pointer (some ⟨b, 12, none⟩))) _
    obtain ⟨A10, hA10⟩ : ∃ A10, A10 = A9.put (some 42) (.pointer (some ⟨b, 12, none⟩)) := ⟨_, rfl⟩
    have sA10 : A10.tmps.size = 57 := by rw [hA10, sz_put]; exact sA9
    have e42A10 : A10.eval (.tmp 42) = (.pointer (some ⟨b, 12, none⟩)) := by rw [hA10]; exact ev_same _ _ _ (by rw [sA9]; omega)
    have e40A10 : A10.eval (.tmp 40) = rv' := by rw [hA10, ev_ne _ _ _ _ (by omega)]; exact e40A9
    rw [← hA10]
    refine held_one 10 rop10 (by kernel_rfl) (by rfl) rfl ?_
    intro K' hK
    refine wp_store_one 129 _ _ rfl (by kernel_rfl) b 12 rv' e42A10 e40A10 hr6.one (by rw [k6.held cR hbr]; rfl) ((k6.frozen M4.hb hbr 12).trans (M4.z 12)) ?_
    refine hK _ _ ?_ ?_
    · exact ((Sp.refl [b] w6).set b 12 (by simp) _).range (k6.range hra hKr) hKb2
    clear hK K'
    refine wpAnyH_done (by kernel_rfl) (NoPanic.normal ?_) _
    show Q .normal A10 (w6.setCell ⟨b, 12, none⟩ rv')
    have := hfin N rv' w6 hr6 k6 ho7
    rw [hA10, hA9, hA8, hA7, hA6, hA5, hA4, hA3, hA2, hA1]
    exact this
  · intro K' hK
    refine wp_buildW _ rfl (i, s) hs e38A5 ?_
    intro N W2 kN hN hkN
    have kW2 : Kp w4 W2 := kW.trans kN
    refine hK _ _ ?_ ?_
    · exact ((kW2.sp []).range hra (by simp))
    clear hK K'
    show wpAnyH _ _ _ _ _ _ _ (A5.put (some 39) (.slice (some ⟨N, 0, none⟩) 1 1)) _
    obtain ⟨A11, hA11⟩ : ∃ A11, A11 = A5.put (some 39) (.slice (some ⟨N, 0, none⟩) 1 1) := ⟨_, rfl⟩
    have sA11 : A11.tmps.size = 57 := by rw [hA11, sz_put]; exact sA5
    have e39A11 : A11.eval (.tmp 39) = (.slice (some ⟨N, 0, none⟩) 1 1) := by rw [hA11]; exact ev_same _ _ _ (by rw [sA5]; omega)
    have e33A11 : A11.eval (.tmp 33) = (.pointer (some ⟨b, 0, none⟩)) := by rw [hA11, ev_ne _ _ _ _ (by omega)]; exact e33A5
    have e36A11 : A11.eval (.tmp 36) = (.pointer (some ⟨b, 12, none⟩)) := by rw [hA11, ev_ne _ _ _ _ (by omega)]; exact e36A5
    rw [← hA11]
    refine held_one 4 rop4 (by kernel_rfl) (by rfl) rfl ?_
    intro K' hK
    refine wp_load_one 129 _ rfl Tryz.isAgg129 b 12 rv e36A11 (kW2.held cR) ?_
    refine hK _ _ ?_ ?_
    · exact ((kW2.sp []).range hra (by simp))
    clear hK K'
    show wpAnyH _ _ _ _ _ _ _ (A11.put (some 37) rv) _
    obtain ⟨A12, hA12⟩ : ∃ A12, A12 = A11.put (some 37) rv := ⟨_, rfl⟩
    have sA12 : A12.tmps.size = 57 := by rw [hA12, sz_put]; exact sA11
    have e37A12 : A12.eval (.tmp 37) = rv := by rw [hA12]; exact ev_same _ _ _ (by rw [sA11]; omega)
    have e33A12 : A12.eval (.tmp 33) = (.pointer (some ⟨b, 0, none⟩)) := by rw [hA12, ev_ne _ _ _ _ (by omega)]; exact e33A11
    have e39A12 : A12.eval (.tmp 39) = (.slice (some ⟨N, 0, none⟩) 1 1) := by rw [hA12, ev_ne _ _ _ _ (by omega)]; exact e39A11
    rw [← hA12]
    refine held_one 7 rop7 (by kernel_rfl) (by rfl) rfl ?_
    intro K' hK
    refine wp_append_w _ _ rfl rv S.row N 1 (i, s) e37A12 e39A12 (M4.rw.sp (kW2.sp []) (fun _ _ => by simp)) hs hN hrl ?_
    intro rv' w6 hr6 hg6 ho6
    refine hK _ _ ?_ ?_
    · exact (grown_sp hg6).range ((kW2.sp []).range hra (by simp)) hKr
    clear hK K'
    have k6 : Sp rv.ownBlock.toList w4 w6 := (kW2.sp _).trans (grown_sp hg6)
    have ho7 : ∀ g, rv'.ownBlock = some g → rv.ownBlock = some g ∨ w4.heap.size ≤ g := fun g hg => by
      rcases ho6 with h | h
      · left; rw [← h]; exact hg
      · right; rw [h] at hg; cases hg; exact kW2.size
    show wpAnyH _ _ _ _ _ _ _ (A12.put (some 40) rv') _
    obtain ⟨A13, hA13⟩ : ∃ A13, A13 = A12.put (some 40) rv' := ⟨_, rfl⟩
    have sA13 : A13.tmps.size = 57 := by rw [hA13, sz_put]; exact sA12
    have e40A13 : A13.eval (.tmp 40) = rv' := by rw [hA13]; exact ev_same _ _ _ (by rw [sA12]; omega)
    have e33A13 : A13.eval (.tmp 33) = (.pointer (some ⟨b, 0, none⟩)) := by rw [hA13, ev_ne _ _ _ _ (by omega)]; exact e33A12
    rw [← hA13]
    refine wpAnyH_take (i := 8) (oi := rop8) (v := (.pointer (some ⟨b, 0, none⟩))) (by rfl) (by kernel_rfl) (by kernel_rfl) (by kernel_rfl) (fun _ _ _ h => h) (y_nil rfl _ rfl _ e33A13) (k6.range hra hKr) ?_
    show wpAnyH _ _ _ _ _ _ _ (A13.put (some 41) (.pointer (some ⟨b, 0, none⟩))) _
    obtain ⟨A14, hA14⟩ : ∃ A14, A14 = A13.put (some 41) (.pointer (some ⟨b, 0, none⟩)) := ⟨_, rfl⟩
    have sA14 : A14.tmps.size = 57 := by rw [hA14, sz_put]; exact sA13
    have e41A14 : A14.eval (.tmp 41) = (.pointer (some ⟨b, 0, none⟩)) := by rw [hA14]; exact ev_same _ _ _ (by rw [sA13]; omega)
    have e40A14 : A14.eval (.tmp 40) = rv' := by rw [hA14, ev_ne _ _ _ _ (by omega)]; exact e40A13
    rw [← hA14]
    refine wpAnyH_take (i := 9) (oi := rop9) (v := (.pointer (some ⟨b, 12, none⟩))) (by rfl) (by kernel_rfl) (by kernel_rfl) (by kernel_rfl) (fun _ _ _ h => h) (y_row rfl _ rfl b e41A14) (k6.range hra hKr) ?_
    show wpAnyH _ _ _ _ _ _ _ (A14.put (some 42) (.pointer (some ⟨b, 12, none⟩))) _
    obtain ⟨A15, hA15⟩ : ∃ A15, A15 = A14.put (some 42) (.pointer (some ⟨b, 12, none⟩)) := ⟨_, rfl⟩
    have sA15 : A15.tmps.size = 57 := by rw [hA15, sz_put]; exact sA14
    have e42A15 : A15.eval (.tmp 42) = (.pointer (some ⟨b, 12, none⟩)) := by rw [hA15]; exact ev_same _ _ _ (by rw [sA14]; omega)
    have e40A15 : A15.eval (.tmp 40) = rv' := by rw [hA15, ev_ne _ _ _ _ (by omega)]; exact e40A14
    rw [← hA15]
    refine held_one 10 rop10 (by kernel_rfl) (by rfl) rfl ?_
    intro K' hK
    refine wp_store_one 129 _ _ rfl (by kernel_rfl) b 12 rv' e42A15 e40A15 hr6.one (by rw [k6.held cR hbr]; rfl) ((k6.frozen M4.hb hbr 12).trans (M4.z 12)) ?_
    refine hK _ _ ?_ ?_
    · exact ((Sp.refl [b] w6).set b 12 (by simp) _).range (k6.range hra hKr) hKb2
    clear hK K'
    refine wpAnyH_done (by kernel_rfl) (NoPanic.normal ?_) _
    show Q .normal A15 (w6.setCell ⟨b, 12, none⟩ rv')
    have := hfin N rv' w6 hr6 k6 ho7
    rw [hA15, hA14, hA13, hA12, hA11, hA5, hA4, hA3, hA2, hA1, put_comm _ 39 37 _ _ (by omega)]
    exact this

end Go.Proofs.YtinpkfdmellleaaGreat

namespace Go.Proofs.YtinpkfdmellleaaGreat
open Go.RowKit Plain
set_option linter.unusedVariables false

set_option maxRecDepth 100000 in
set_option maxHeartbeats 2000000 in
theorem write_ok {w : World} {b bn bl : Nat} {rv : Value} {S : MS} (h : MemIn w b bn bl rv S 0 0) (i : Nat) (s : ByteArray) (hE : rcE S (i : Int) = 0) (hs : s.size = 64) (hrl : S.row.length < 1000000) :
    Calls Tryz.prog 49 #[.pointer (some ⟨b, 0, none⟩), .int .i64 (i : Int), .string s] w fun e w' => e = .returned (.int .i64 0) ∧ Md w w' b bn bl rv ⟨S.now.set i s, S.las, S.row ++ [(i, s)], S.dead, up S.c 1⟩ := by
  obtain ⟨_, _, hi⟩ := rc_ok hE
  have hi2 : i < S.las.length := by omega
  have hi3 : i < S.now.length := by rw [h.fine.nn]; exact hi2
  have n2 := h.fine.n2
  have HE := hid hE
  have HB := hid (built99 i)
  have hss : (s.size : Int) = 64 := by omega
  clear hE
  go_enter_defers Tryz.func49, Tryz.ntmps49
  go_wp2_with fail
  refine (lock_any h).mono ?_
  rintro e w1 ⟨rfl, h1, k1⟩
  go_wp2_with fail
  refine (reach_any h1 _).mono ?_
  rintro e w2 ⟨rfl, k2⟩
  rw [HE.out]
  have h2 := hid (h1.kp k2)
  have K2 := hid (k1.trans (k2.sp _))
  clear h h1 k1 k2
  go_wp2_with (refine wpList_store_new rfl _ _ rfl (i, z64) z64_size _ rfl rfl rfl ?_)
  intro w3 k3 V3 hl3
  have M3 := h2.out.kp k3
  obtain ⟨K, hKK⟩ : ∃ K, K = w2.heap.size := ⟨_, rfl⟩
  rw [← hKK] at V3 hl3 ⊢
  have hb2 : ∀ t, t ∈ blk b bn bl rv → t < K := fun t ht => by
    rw [hKK]
    exact h2.out.low t ht
  have V4 := V3.fill s hs
  have r4 := run_copy_str w3 3 K 1 64 s hs V3.there1
  have s4 : Kp w2 (w3.setCells K 1 (byteCells s)) := Sp.kp k3 (Sp.setCells (T := [K]) K (by simp) _ _ _ (Sp.refl _ _)) (by simp; omega)
  have M4 := h2.out.kp s4
  have S4 := K2.out.trans (s4.sp [b])
  obtain ⟨w4, hw4⟩ : ∃ w4, w4 = w3.setCells K 1 (byteCells s) := ⟨_, rfl⟩
  rw [← hw4] at V4 r4 s4 M4 S4
  have R4 := hid r4
  have HS := hid hs
  have hK2 : w.heap.size ≤ K := by rw [hKK]; exact K2.out.size
  clear hw4 r4 M3 V3 k3 hl3 hKK h2 K2 s4 hs
  go_wp2_with (refine wpList_copy_run rfl _ _ 37 9 rfl _ _ _ w4 rfl rfl R4.out ?_)
  clear R4
  have hKr : K ∉ rv.ownBlock.toList := fun hm => by
    have := hb2 K (by simp only [blk, List.mem_cons]; exact .inr (.inr (.inr hm)))
    omega
  have hKb : K ≠ b := by
    have := hb2 b (b_mem _ _ _ _)
    omega
  refine row_region M4 V4 HS.out hrl hKr hKb _ (by rfl) (by rfl) (by rfl) _ ?_
  intro N rv' w6 hr6 k6 ho7
  have hsz : ∀ g, rv'.ownBlock = some g → g ∈ blk b bn bl rv ∨ w.heap.size ≤ g := fun g hg => by
    rcases ho7 g hg with h | h
    · left; simp [blk, h]
    · right; exact Nat.le_trans S4.size h
  have M6 := M4.row k6 rv' (S.row ++ [(i, s)]) hr6 (fun g hg => by
    rcases ho7 g hg with h | h
    · exact M4.n4 g h
    · have h1 := M4.low b (b_mem _ _ _ _)
      have h2 := M4.low bn (bn_mem _ _ _ _)
      have h3 := M4.low bl (bl_mem _ _ _ _)
      exact ⟨by omega, by omega, by omega⟩) (fun p hp => by
    rcases List.mem_append.1 hp with h | h
    · exact (M4.fine.br p h).1
    · rw [List.mem_singleton.1 h]; exact hi2)
  have S6 : Sp (blk b bn bl rv) w (w6.setCell ⟨b, 12, none⟩ rv') := (S4.b.trans k6.rw).trans ((Sp.refl [b] w6).set b 12 (by simp) _).b
  obtain ⟨W, hW⟩ : ∃ W, W = w6.setCell ⟨b, 12, none⟩ rv' := ⟨_, rfl⟩
  rw [← hW] at M6 S6 ⊢
  have nW : Nw w (blk b bn bl rv) (blk b bn bl rv') := fun t ht => by
    simp only [blk, List.mem_cons] at ht
    rcases ht with rfl | rfl | rfl | ht
    · exact .inl (b_mem _ _ _ _)
    · exact .inl (bn_mem _ _ _ _)
    · exact .inl (bl_mem _ _ _ _)
    · exact hsz t (by simpa using ht)
  have r7 := run_copy_str W 3 bn (i * 64) 64 s HS.out (M6.sn.at hi3)
  have s7 : Sp [bn] W (W.setCells bn (i * 64) (byteCells s)) := Sp.setCells bn (by simp) _ _ _ (Sp.refl _ _)
  have M7 := M6.nows s7 (S.now.set i s) (M6.sn.set i hi3 s HS.out) (by rw [List.length_set]; exact M4.fine.nn)
  obtain ⟨W7, hW7⟩ : ∃ W7, W7 = W.setCells bn (i * 64) (byteCells s) := ⟨_, rfl⟩
  rw [← hW7] at r7 s7 M7
  have S7 := S6.trans s7.bn
  have cN := M6.cN
  simp only at cN
  have R7 := hid r7
  have hcnt := count_any M7 1 (by omega)
  clear hW hW7 r7 s7 M6 M4 V4 hr6 k6 S6 S4 hb2 hKr hKb ho7 hsz
  go_wp2_with (refine wpList_copy_run rfl _ _ 37 9 rfl _ _ _ W7 rfl rfl R7.out ?_)
  refine hcnt.mono ?_
  rintro e w8 ⟨⟨v, rfl⟩, h8, k8⟩
  clear hcnt R7 cN
  go_wp2_with fail
  refine leaves_cons (f := 55) (args := #[.pointer (some ⟨b, 4, none⟩)]) (by simp) (by simp [go_sem]) ?_
  refine (unlock_any h8 .returning).mono ?_
  rintro e u' w9 ⟨rfl, rfl, h9, k9⟩
  exact ⟨_, results_tmp rfl _ _ _, rfl, _, h9, (S7.trans k8.b).trans k9.b, nW⟩
set_option maxRecDepth 100000 in
theorem write_any {w : World} {b bn bl : Nat} {rv : Value} {S : MS} (h : MemIn w b bn bl rv S 0 0) (k : Int) (s : ByteArray) (hrl : S.row.length < 1000000) :
    Calls Tryz.prog 49 #[.pointer (some ⟨b, 0, none⟩), .int .i64 k, .string s] w fun e w' => e = .returned (.int .i64 (wrE S k s)) ∧ Md w w' b bn bl rv (wr S k s) := by
  by_cases hE : rcE S k = 0
  · by_cases hs : s.size = 64
    · have e1 : wrE S k s = 0 := by unfold wrE; rw [if_pos hE, if_pos hs]
      have e2 : wr S k s = ⟨S.now.set k.toNat s, S.las, S.row ++ [(k.toNat, s)], S.dead, up S.c 1⟩ := if_pos e1
      obtain ⟨_, h0, _⟩ := rc_ok hE
      rw [e1, e2]
      have := write_ok h k.toNat s (by rw [show ((k.toNat : Nat) : Int) = k by omega]; exact hE) hs hrl
      rw [show ((k.toNat : Nat) : Int) = k by omega] at this
      exact this
    · have e1 : wrE S k s = 4 := by unfold wrE; rw [if_pos hE, if_neg hs]
      have e2 : wr S k s = S := by unfold wr; rw [e1]; rfl
      rw [e1, e2]
      have hr := fun w1 (h1 : MemIn w1 b bn bl rv S 1 (-1073741824)) => reach_any h1 k
      rw [hE] at hr
      have hs2 : ((s.size : Int) == 64) = false := by simpa using (by omega : ¬ (s.size : Int) = 64)
      have hs3 : ¬ (s.size : Int) = 64 := by omega
      clear hE hs e1 e2
      go_enter_defers Tryz.func49, Tryz.ntmps49
      go_wp2_with fail
      refine (lock_any h).mono ?_
      rintro e w1 ⟨rfl, h1', k1⟩
      go_wp2_with fail
      refine (hr _ h1').mono ?_
      rintro e w2 ⟨rfl, k2⟩
      have h2 := h1'.kp k2
      go_wp2_with fail
      refine leaves_cons (f := 55) (args := #[.pointer (some ⟨b, 4, none⟩)]) (by simp) (by simp [go_sem]) ?_
      refine (unlock_any h2 .returning).mono ?_
      rintro e u' w4 ⟨rfl, rfl, h4, k4⟩
      exact ⟨_, results_tmp rfl _ _ _, rfl, Md.same h4 ((k1.trans (k2.sp _)).trans k4).b⟩
  · have e1 : wrE S k s = rcE S k := if_neg hE
    have e2 : wr S k s = S := by unfold wr; rw [e1, if_neg hE]
    rw [e1, e2]
    have hr := fun w1 (h1 : MemIn w1 b bn bl rv S 1 (-1073741824)) => reach_any h1 k
    obtain ⟨E, hEE⟩ : ∃ E, E = rcE S k := ⟨_, rfl⟩
    rw [← hEE] at hE hr ⊢
    have hE2 : (E == 0) = false := by simpa using hE
    clear hEE hE e1 e2
    go_enter_defers Tryz.func49, Tryz.ntmps49
    go_wp2_with fail
    refine (lock_any h).mono ?_
    rintro e w1 ⟨rfl, h1', k1⟩
    go_wp2_with fail
    refine (hr _ h1').mono ?_
    rintro e w2 ⟨rfl, k2⟩
    have h2 := h1'.kp k2
    go_wp2_with fail
    refine leaves_cons (f := 55) (args := #[.pointer (some ⟨b, 4, none⟩)]) (by simp) (by simp [go_sem]) ?_
    refine (unlock_any h2 .returning).mono ?_
    rintro e u' w4 ⟨rfl, rfl, h4, k4⟩
    exact ⟨_, results_tmp rfl _ _ _, rfl, Md.same h4 ((k1.trans (k2.sp _)).trans k4).b⟩

end Go.Proofs.YtinpkfdmellleaaGreat

namespace Go.Proofs.YtinpkfdmellleaaGreat
open Go.RowKit Plain
set_option linter.unusedVariables false

theorem heap_setCells (g : Nat) : ∀ (vs : List Value) (o : Nat) (w : World) (cur : Array Value) (t : TypeId) (fr : Nat × Nat), w.heap[g]? = some (.cells cur t fr) → ∃ cur', (w.setCells g o vs).heap[g]? = some (.cells cur' t fr) ∧ cur'.size = cur.size
  | [], _, _, cur, _, _, h => ⟨cur, h, rfl⟩
  | v :: r, o, w, cur, t, fr, h => by
    rw [World.setCells]
    have h1 : (w.setCell ⟨g, o, none⟩ v).heap[g]? = some (.cells (cur.setIfInBounds o v) t fr) := by
      rw [setCell_eq_setRow w g o cur t fr v h]
      exact setRow_heap w g cur _ t _ h
    obtain ⟨c, h2, h3⟩ := heap_setCells g r (o + 1) _ _ t fr h1
    exact ⟨c, h2, by rw [h3]; simp⟩
/-- the row under way: those kept lie in front; those from k on lie where they lay. -/
structure Tk (w : World) (g cap k : Nat) (row kept : List (Nat × ByteArray)) : Prop where
  h : ∃ cur, w.heap[g]? = some (.cells cur 164 (0, 0)) ∧ cur.size = cap * 65
  c1 : ∀ i, i < kept.length → w.rangeAt g (i * 65) (wc (kept.getD i (0, noS)))
  c2 : ∀ i, k ≤ i → i < row.length → w.rangeAt g (i * 65) (wc (row.getD i (0, noS)))
  z1 : ∀ p ∈ kept, p.2.size = 64
  z2 : ∀ p ∈ row, p.2.size = 64
theorem Tk.sp {w w' : World} {g cap k : Nat} {row kept : List (Nat × ByteArray)} (h : Tk w g cap k row kept) {T : List Nat} (q : Sp T w w') (hg : g ∉ T) : Tk w' g cap k row kept := by
  obtain ⟨cur, h1, h2⟩ := h.h
  exact ⟨⟨cur, (q.block g (Array.getElem?_eq_some_iff.1 h1).1 hg).trans h1, h2⟩, fun i hi => q.range (h.c1 i hi) hg, fun i h1 h2 => q.range (h.c2 i h1 h2) hg, h.z1, h.z2⟩
theorem Tk.there {w : World} {g cap k : Nat} {row kept : List (Nat × ByteArray)} (h : Tk w g cap k row kept) : w.there g 0 (cap * 65) := fun j hj => by
  obtain ⟨cur, h1, h2⟩ := h.h
  have hj2 : j < cur.size := by omega
  simp [World.cell?, World.frozen?, h1, hj2]
theorem Tk.skip {w : World} {g cap k : Nat} {row kept : List (Nat × ByteArray)} (h : Tk w g cap k row kept) : Tk w g cap (k + 1) row kept := ⟨h.h, h.c1, fun i h1 h2 => h.c2 i (by omega) h2, h.z1, h.z2⟩
theorem getD_app {l : List (Nat × ByteArray)} {p : Nat × ByteArray} (i : Nat) (h : i < l.length) : (l ++ [p]).getD i (0, noS) = l.getD i (0, noS) := by
  rw [List.getD_eq_getElem?_getD, List.getElem?_append_left h, ← List.getD_eq_getElem?_getD]
theorem getD_last {l : List (Nat × ByteArray)} {p : Nat × ByteArray} : (l ++ [p]).getD l.length (0, noS) = p := by
  rw [List.getD_eq_getElem?_getD, List.getElem?_append_right (Nat.le_refl _)]; simp
theorem Tk.put {w : World} {g cap k : Nat} {row kept : List (Nat × ByteArray)} (h : Tk w g cap k row kept) (p : Nat × ByteArray) (hp : p.2.size = 64) (hm : kept.length ≤ k) (hk : k < row.length) (hc : row.length ≤ cap) : Tk (w.setCells g (kept.length * 65) (wc p)) g cap (k + 1) row (kept ++ [p]) := by
  have hl : (wc p).length = 65 := by rw [wc_len, hp]
  refine ⟨?_, fun i hi => ?_, fun i h1 h2 => ?_, fun q hq => ?_, h.z2⟩
  · obtain ⟨cur, h1, h2⟩ := h.h
    obtain ⟨c, h3, h4⟩ := heap_setCells g (wc p) (kept.length * 65) w cur _ _ h1
    exact ⟨c, h3, by rw [h4, h2]⟩
  · rw [List.length_append, List.length_singleton] at hi
    by_cases e : i < kept.length
    · rw [getD_app i e]
      have hz := h.z1 (kept.getD i (0, noS)) (by rw [List.getD_eq_getElem?_getD, List.getElem?_eq_getElem e]; exact List.getElem_mem e)
      exact World.rangeAt_setCells_apart (h.c1 i e) g _ _ (.inr (.inl (by rw [wc_len, hz]; omega)))
    · obtain rfl : i = kept.length := by omega
      rw [getD_last]
      exact World.rangeAt_setCells_same w g _ _ (fun j hj => by
        have := h.there (kept.length * 65 + j) (by rw [hl] at hj; have : kept.length + 1 ≤ cap := by omega
                                                   have := Nat.mul_le_mul_right 65 this
                                                   omega)
        rwa [Nat.zero_add] at this)
  · exact World.rangeAt_setCells_apart (h.c2 i (by omega) h2) g _ _ (.inr (.inr (by rw [hl]; omega)))
  · rcases List.mem_append.1 hq with hq | hq
    · exact h.z1 q hq
    · rw [List.mem_singleton.1 hq]; exact hp
theorem tk_of {w : World} {g cap : Nat} {row : List (Nat × ByteArray)} (h : RowIn w (.slice (some ⟨g, 0, none⟩) row.length cap) row) : Tk w g cap 0 row [] := by
  rcases h.o.2 with ⟨h1, _⟩ | ⟨g', cap', cur, h1, _, hg, hn, hm, hcs, htake⟩
  · cases h1
  · simp only [Value.slice.injEq, Option.some.injEq, Addr.mk.injEq, and_true, true_and] at h1
    obtain ⟨rfl, rfl⟩ := h1
    refine ⟨⟨cur, hg, hcs⟩, fun i hi => absurd hi (by simp), fun i _ hi => ?_, fun p hp => (by cases hp), h.z⟩
    obtain ⟨g2, cap2, hv, _, _, _, hr⟩ := h.some (by omega)
    simp only [Value.slice.injEq, Option.some.injEq, Addr.mk.injEq, and_true, true_and] at hv
    obtain ⟨rfl, rfl⟩ := hv
    exact hr i hi
theorem Tk.row {w : World} {g cap k : Nat} {row kept : List (Nat × ByteArray)} (h : Tk w g cap k row kept) (hm : kept.length ≤ cap) (hc : cap ≤ maxLen) : RowIn w (.slice (some ⟨g, 0, none⟩) kept.length cap) kept := by
  obtain ⟨cur, h1, h2⟩ := h.h
  have hl := wcs_len kept h.z1
  refine ⟨⟨hl, .inr ⟨g, cap, cur, rfl, Nat.zero_le _, h1, hm, hc, h2, ?_⟩⟩, h.z1⟩
  have hsz : kept.length * 65 ≤ cur.size := by rw [h2]; exact Nat.mul_le_mul_right 65 hm
  apply List.ext_getElem?
  intro j
  by_cases hj : j < kept.length * 65
  · rw [List.getElem?_take_of_lt hj]
    have hi : j / 65 < kept.length := by omega
    have e : j = j / 65 * 65 + j % 65 := by omega
    have hz := h.z1 (kept.getD (j / 65) (0, noS)) (by rw [List.getD_eq_getElem?_getD, List.getElem?_eq_getElem hi]; exact List.getElem_mem hi)
    have hlen : j % 65 < (wc (kept.getD (j / 65) (0, noS))).length := by rw [wc_len, hz]; omega
    have h3 := wcs_at kept (j / 65) h.z1 hi (j % 65) _ (List.getElem?_eq_getElem hlen)
    have h4 := h.c1 (j / 65) hi (j % 65) _ (List.getElem?_eq_getElem hlen)
    rw [← e] at h3 h4
    rw [h3, ← h4]
    have hj2 : j < cur.size := by omega
    simp [World.cell?, h1, hj2]
  · rw [List.getElem?_eq_none (by rw [List.length_take]; omega), List.getElem?_eq_none (by omega)]
theorem size99 : (Tryz.prog.info? 164).map (·.size) = some 65 := by kernel_rfl
theorem wpList_append_tk {w : World} {ops : Array Oper} {rest : List Oper} {o : Oper} {a : Act} {Q : Exit → Act → World → Prop} (hgd : o.guard = none) (s x : Operand)
    (ho : o.op = .call { callee := .builtin .append, args := #[s, x], argTypes := #[129, 129] }) (g m cap N c : Nat) (p : Nat × ByteArray) (hp : p.2.size = 64) (hs : a.eval s = .slice (some ⟨g, 0, none⟩) m cap) (hx : a.eval x = .slice (some ⟨N, 0, none⟩) 1 c) (hr : w.rangeAt N 0 (wc p)) (ht : w.there g 0 (cap * 65)) (hm : m + 1 ≤ cap)
    (h : wpList Tryz.prog ops Q rest (a.put o.dst (.slice (some ⟨g, 0, none⟩) (m + 1) cap)) (w.setCells g (m * 65) (wc p))) : wpList Tryz.prog ops Q (o :: rest) a w := by
  obtain ⟨i, hi, hs0⟩ := Option.map_eq_some_iff.1 size99
  have hl : (wc p).length = 65 := by rw [wc_len, hp]
  have hh : ∀ j, j < (wc p).length → (w.cell? ⟨g, 0 + m * i.size + j, none⟩).isSome = true ∧ w.frozen? ⟨g, 0 + m * i.size + j, none⟩ = false := fun j hj => by
    rw [hs0]
    have := ht (m * 65 + j) (by rw [hl] at hj; have := Nat.mul_le_mul_right 65 hm; omega)
    rw [show 0 + (m * 65 + j) = 0 + m * 65 + j by omega] at this
    exact this
  have hrun := run_append_room_cells (P := Tryz.prog) w 129 o.type 164 i Tryz.underlying129 hi g 0 m cap ⟨N, 0, none⟩ 1 c (wc p) (by rw [hl, hs0]) (fun j u hu => by rw [Addr.add_mid]; exact hr j u hu) (wc_one p) hm (fun j hj => (hh j hj).1) (fun j hj => (hh j hj).2)
  rw [hs0, Nat.zero_add] at hrun
  refine wpList_plain hgd fun K hK' => ?_
  unfold Oper.wp
  simp [execOp, ho, resolve, invoke, builtin, hs, hx, hrun, Result.andThen]
  exact hK' _ _ h
theorem wpList_buildW {w : World} {ops : Array Oper} {rest : List Oper} {o : Oper} {a : Act} {Q : Exit → Act → World → Prop} (hgd : o.guard = none) (x : Operand) (ho : o.op = .buildSlice 129 1 #[(0, x)]) (p : Nat × ByteArray) (hz : p.2.size = 64) (hx : a.eval x = .agg (wc p).toArray)
    (h : ∀ N w', Kp w w' → w'.rangeAt N 0 (wc p) → w.heap.size ≤ N → wpList Tryz.prog ops Q rest (a.put o.dst (.slice (some ⟨N, 0, none⟩) 1 1)) w') : wpList Tryz.prog ops Q (o :: rest) a w :=
  wpList_plain hgd fun K hK' => wp_buildW x ho p hz hx (fun N w' h1 h2 h3 => hK' _ _ (h N w' h1 h2 h3))
set_option maxRecDepth 100000 in
set_option maxHeartbeats 2000000 in
theorem takeC {w : World} {b bn bl c : Nat} {rv : Value} {S : MS} {x y : Int} (h : MemIn w b bn bl rv S x y) (f : Nat → (Nat × ByteArray) → Bool)
    (hcl : ∀ (w' : World) (k : Nat) (p : Nat × ByteArray), k < S.row.length → Sp rv.ownBlock.toList w w' → p.2.size = 64 → Calls Tryz.prog 130 #[.int .i64 (k : Int), .agg (wc p).toArray, .pointer (some ⟨c, 0, none⟩)] w' fun e w'' => e = .returned (.bool (!f k p)) ∧ Kp w' w'') :
    Calls Tryz.prog 129 #[.pointer (some ⟨b, 0, none⟩), .func (.func 130) #[] #[.pointer (some ⟨c, 0, none⟩)]] w fun e w' => e = .returned (.tuple #[]) ∧ ∃ rv', MemIn w' b bn bl rv' ⟨S.now, S.las, tk f 0 S.row, S.dead, S.c⟩ x y ∧ Sp (blk b bn bl rv) w w' ∧ Nw w (blk b bn bl rv) (blk b bn bl rv') := by
  obtain ⟨a, cap, rfl, hn1, hn2⟩ := h.rw.len
  obtain ⟨n, hn⟩ : ∃ n, n = S.row.length := ⟨_, rfl⟩
  rw [← hn] at h hn1 hcl ⊢
  have HN : Hid (n = S.row.length) := hn
  have cR := h.cR
  have hcp : cap ≤ maxLen := by unfold maxLen; omega
  have HH := hid h
  have HCL := hid hcl
  clear hn h hcl
  by_cases hn0 : n = 0
  · have hrow : S.row = [] := List.eq_nil_of_length_eq_zero (by rw [← HN.out]; exact hn0)
    subst hn0
    have z12 := HH.out.z 12
    go_enter Tryz.func129, Tryz.ntmps129
    have hsl : ∀ W : World, (Instr.slice 129 (.slice a 0 cap) none (some (.int .i64 0)) none).run Tryz.prog W = .ok (.slice a 0 cap) W := fun W => by
      cases a with
      | none => simp [Instr.slice, go_sem]
      | some q => simp [Instr.slice, go_sem]
    go_wp2_with fail
    refine wp_loop_rounds 1 ?_
    rw [rounds_succ]
    go_wp2
    go_end0
    have M := HH.out.row (Sp.refl _ _) (.slice a 0 cap) S.row HH.out.rw HH.out.n4 (fun p hp => (HH.out.fine.br p hp).1)
    refine ⟨rfl, _, ?_, ((Sp.refl [b] w).set b 12 (by simp) _).b, Nw.refl _ _⟩
    rw [show tk f 0 S.row = S.row by rw [hrow]; rfl]
    exact M
  · have h0 : 0 < S.row.length := by rw [← HN.out]; omega
    obtain ⟨g, cap', hv, _, _, _, _⟩ := HH.out.rw.some h0
    obtain rfl : a = some ⟨g, 0, none⟩ := by simp only [Value.slice.injEq] at hv; exact hv.1
    have hgb : g ≠ b ∧ g ≠ bn ∧ g ≠ bl := HH.out.n4 g rfl
    have hgl : g < w.heap.size := HH.out.low g (by simp [blk, Value.ownBlock])
    have TK0 := hid (tk_of (by have := HH.out.rw; rw [HN.out] at this; exact this) : Tk w g cap 0 S.row [])
    have HG := hid hgb
    have hsl : ∀ W : World, (Instr.slice 129 (.slice (some ⟨g, 0, none⟩) n cap) none (some (.int .i64 0)) none).run Tryz.prog W = .ok (.slice (some ⟨g, 0, none⟩) 0 cap) W := fun W => by
      simp [Instr.slice, go_sem]
    clear hv hgb
    go_enter Tryz.func129, Tryz.ntmps129
    go_wp2_with fail
    go_loopw [4, 17] (fun v i wr => ∃ k m : Nat, k ≤ n ∧ m ≤ k ∧ i = .int .i64 k ∧ v = .slice (some ⟨g, 0, none⟩) m cap ∧ Hid (m = (tk f 0 (S.row.take k)).length) ∧ Hid (Tk wr g cap k S.row (tk f 0 (S.row.take k))) ∧ Hid (Sp [g] w wr)) (fun _ i _ => n - (intOf i).toNat)
    case atStart => exact ⟨0, 0, by omega, by omega, by go_num, rfl, rfl, TK0, Sp.refl _ _⟩
    case round =>
      clear hsl cR TK0
      obtain ⟨k, m, hk, hmk, rfl, rfl, HM, HT, HS⟩ := hrel
      by_cases hlt : k < n
      · have hks : k < S.row.length := by rw [← HN.out]; exact hlt
        have hpt := tk_take f S.row k hks
        have hr := HT.out.c2 k (Nat.le_refl _) hks
        have hp2 := HT.out.z2 (S.row.getD k (0, noS)) (by rw [List.getD_eq_getElem?_getD, List.getElem?_eq_getElem hks]; exact List.getElem_mem hks)
        obtain ⟨p, hp⟩ : ∃ p, p = S.row.getD k (0, noS) := ⟨_, rfl⟩
        rw [← hp] at hr hpt hp2
        have HP := hid hpt
        have HR := hid hr
        clear hp hpt hr
        go_wp2_with (first | refine wpList_load_w rfl _ rfl g (k * 65) rfl p hp2 HR.out ?_ | refine wpList_store_new rfl _ _ rfl p hp2 _ rfl rfl rfl ?_)
        intro w2 k2 V2 hl2
        obtain ⟨K, hKK⟩ : ∃ K, K = wr.heap.size := ⟨_, rfl⟩
        rw [← hKK] at V2 hl2 ⊢
        have hgK : g ≠ K := by have := HS.out.size; omega
        have HT2 := hid (HT.out.sp (k2.sp []) (by simp))
        have HS2 := hid (HS.out.trans (k2.sp _))
        have HV2 := hid V2
        have HR2 := hid V2.r
        have hwK : w.heap.size ≤ K := by have := HS.out.size; omega
        clear hKK HT HS HR k2 V2
        go_wp2_with (refine wpList_load_w rfl _ rfl K 0 rfl p hp2 HR2.out ?_)
        refine (HCL.out w2 k p hlt (by simpa [Value.ownBlock] using HS2.out) hp2).mono ?_
        rintro e w3 ⟨rfl, k3⟩
        have HT3 := hid (HT2.out.sp (k3.sp []) (by simp))
        have HS3 := hid (HS2.out.trans (k3.sp _))
        have HV3 := hid (HV2.out.sp (k3.sp []) (by simp))
        have HR3 := hid HV3.out.r
        clear HT2 HS2 HV2 HR2 k3
        cases hf : f k p with
        | false =>
          rw [hf] at HP
          have HP2 : Hid (tk f 0 (S.row.take (k + 1)) = tk f 0 (S.row.take k)) := hid (by have := HP.out; simpa using this)
          clear HP hf HCL
          go_wp2
          go_roundw
          case rel => exact ⟨k + 1, m, by omega, by omega, by go_num, rfl, by rw [HP2.out]; exact HM, by rw [HP2.out]; exact HT3.out.skip, HS3⟩
          case measure => simp [intOf]; omega
        | true =>
          rw [hf] at HP
          have HP2 : Hid (tk f 0 (S.row.take (k + 1)) = tk f 0 (S.row.take k) ++ [p]) := hid (by have := HP.out; simpa using this)
          clear HP hf HCL
          go_wp2_with (first | refine wpList_load_w rfl _ rfl K 0 rfl p hp2 HR3.out ?_ | refine wpList_buildW rfl _ rfl p hp2 rfl ?_)
          intro N w4 k4 hN hNl
          have hT4 := HT3.out.sp (k4.sp []) (by simp)
          have HTH := hid hT4.there
          have HRN := hid hN
          have hgN : g ∉ [K] := by simpa using hgK
          have hmc : m + 1 ≤ cap := by omega
          have HT5 : Hid (Tk (w4.setCells g (m * 65) (wc p)) g cap (k + 1) S.row (tk f 0 (S.row.take (k + 1)))) := by
            rw [HP2.out, HM.out]
            exact hT4.put p hp2 (by rw [← HM.out]; exact hmk) hks (by rw [← HN.out]; exact hn1)
          have HS5 : Hid (Sp [g] w (w4.setCells g (m * 65) (wc p))) := Sp.setCells g (by simp) _ _ _ (HS3.out.trans (k4.sp _))
          have HM5 : Hid (m + 1 = (tk f 0 (S.row.take (k + 1))).length) := by rw [HP2.out, HM.out]; simp [Hid]
          obtain ⟨w5, hw5⟩ : ∃ w5, w5 = w4.setCells g (m * 65) (wc p) := ⟨_, rfl⟩
          rw [← hw5] at HT5 HS5
          have HW5 := hid hw5
          clear hw5 hT4 hN k4 HT3 HS3 HV3 HR3 HP2 HM
          go_wp2_with (refine wpList_append_tk rfl _ _ rfl g m cap N 1 p hp2 rfl rfl HRN.out HTH.out hmc ?_)
          rw [← HW5.out]
          clear HW5 HTH HRN
          go_wp2
          go_roundw
          case rel => exact ⟨k + 1, m + 1, by omega, by omega, by go_num, by go_num, HM5, HT5, HS5⟩
          case measure => simp [intOf]; omega
      · obtain rfl : k = n := by omega
        have hall : S.row.take k = S.row := by rw [HN.out, List.take_length]
        rw [hall] at HM HT
        have cR := HS.out.held HH.out.cR (show b ∉ [g] by simpa using HG.out.1.symm)
        have z12 := (HS.out.frozen HH.out.hb (show b ∉ [g] by simpa using HG.out.1.symm) 12).trans (HH.out.z 12)
        have hmm : (tk f 0 S.row).length ≤ cap := by have := tk_len f S.row 0; have := HN.out; omega
        have hrow : RowIn wr (.slice (some ⟨g, 0, none⟩) m cap) (tk f 0 S.row) := by rw [HM.out]; exact HT.out.row hmm hcp
        have M := HH.out.row (w' := wr) (by simpa [Value.ownBlock] using HS.out) (.slice (some ⟨g, 0, none⟩) m cap) (tk f 0 S.row) hrow (fun q hq => by cases hq; exact HG.out) (fun p hp => (HH.out.fine.br p (tk_mem f S.row 0 p hp)).1)
        have SP : Sp (blk b bn bl (.slice (some ⟨g, 0, none⟩) k cap)) w (wr.setCell ⟨b, 12, none⟩ (.slice (some ⟨g, 0, none⟩) m cap)) := (HS.out.mono (fun t ht => by simp at ht; subst ht; simp [blk, Value.ownBlock])).trans ((Sp.refl [b] wr).set b 12 (by simp) _).b
        clear HS HT HM HCL hrow
        go_wp2
        go_end0
        exact ⟨rfl, _, M, SP, fun t ht => .inl (by simpa [blk, Value.ownBlock] using ht)⟩

end Go.Proofs.YtinpkfdmellleaaGreat

namespace Go.Proofs.YtinpkfdmellleaaGreat
open Go.RowKit Plain
set_option linter.unusedVariables false

/-! ### words in memory -/
structure KeIn (w : World) (v : Value) (ks : List Nat) : Prop where
  h : ∃ a cap, v = .slice a ks.length cap ∧ ks.length ≤ 9223372036854775807 ∧ cap ≤ 9223372036854775807 ∧ (0 < ks.length → ∃ g off, a = some ⟨g, off, none⟩ ∧ ∀ i, i < ks.length → w.cell? ⟨g, off + i, none⟩ = some (.int .u64 ((ks.getD i 0 : Nat) : Int)))
  z : ∀ x ∈ ks, x < 18446744073709551616
theorem KeIn.sp {w w' : World} {v : Value} {ks : List Nat} (h : KeIn w v ks) {T : List Nat} (k : Sp T w w') (hT : ∀ t, t ∈ T → ∀ g off n c, v = .slice (some ⟨g, off, none⟩) n c → 0 < n → g ≠ t) : KeIn w' v ks := by
  obtain ⟨a, cap, rfl, h1, h1b, h2⟩ := h.h
  refine ⟨⟨a, cap, rfl, h1, h1b, fun h0 => ?_⟩, h.z⟩
  obtain ⟨g, off, rfl, h3⟩ := h2 h0
  exact ⟨g, off, rfl, fun i hi => k.held (h3 i hi) (fun ht => hT g ht g off _ _ rfl h0 rfl)⟩
theorem KeIn.kp {w w' : World} {v : Value} {ks : List Nat} (h : KeIn w v ks) (k : Kp w w') : KeIn w' v ks := h.sp (k.sp []) (fun t ht => by cases ht)
theorem KeIn.far {w : World} {v : Value} {ks : List Nat} (h : KeIn w v ks) : ∀ g off n c, v = .slice (some ⟨g, off, none⟩) n c → 0 < n → g < w.heap.size := fun g off n c hv hn => by
  obtain ⟨a, cap, e, _, _, h2⟩ := h.h
  rw [e] at hv
  simp only [Value.slice.injEq] at hv
  obtain ⟨rfl, rfl, rfl⟩ := hv
  obtain ⟨g', off', e2, h3⟩ := h2 hn
  cases e2
  exact World.block_lt_of_cell? w _ (h3 0 hn)
/-- is the place's bit 1? -/
def bit (ks : List Nat) (k : Nat) : Bool := decide (k / 64 < ks.length) && decide (ks.getD (k / 64) 0 / 2 ^ (k % 64) % 2 = 1)
theorem and_one (y : Nat) (h : y < 18446744073709551616) : bits .and .u64 (y : Int) 1 = ((y % 2 : Nat) : Int) := by
  have := and64 y 1 h (by omega)
  rw [nat_mask1] at this
  exact this
set_option maxRecDepth 100000 in
theorem isset_any (v : Value) (ks : List Nat) (k : Nat) (hk : k < 4611686018427387904) (w : World) (h : KeIn w v ks) : Calls Tryz.prog 131 #[v, .int .i64 (k : Int)] w fun e w' => e = .returned (.bool (bit ks k)) ∧ w' = w := by
  obtain ⟨a, cap, rfl, h1, h1b, h2⟩ := h.h
  have hz := h.z
  have e1 : (k : Int).tdiv 64 = ((k / 64 : Nat) : Int) := by rw [Int.tdiv_eq_ediv_of_nonneg (by omega)]; omega
  have e2 : (k : Int) / 64 = ((k / 64 : Nat) : Int) := by omega
  have e3 : (k : Int).tmod 64 = ((k % 64 : Nat) : Int) := by rw [Int.tmod_eq_emod_of_nonneg (by omega)]; omega
  have e4 : (k : Int) % 64 = ((k % 64 : Nat) : Int) := by omega
  obtain ⟨q, hq⟩ : ∃ q, q = k / 64 := ⟨_, rfl⟩
  obtain ⟨r, hr⟩ : ∃ r, r = k % 64 := ⟨_, rfl⟩
  have hr64 : r < 64 := by omega
  obtain ⟨n, hn⟩ : ∃ n, n = ks.length := ⟨_, rfl⟩
  unfold bit
  rw [← hq, ← hr, ← hn]
  rw [← hq] at e1 e2
  rw [← hr] at e3 e4
  rw [← hn] at h1 h2
  by_cases hlt : q < n
  · obtain ⟨g, off, rfl, h3⟩ := h2 (by omega)
    have c := h3 q hlt
    have hX := hz (ks.getD q 0) (by rw [List.getD_eq_getElem?_getD, List.getElem?_eq_getElem (by omega)]; exact List.getElem_mem _)
    obtain ⟨X, hXX⟩ : ∃ X, X = ks.getD q 0 := ⟨_, rfl⟩
    rw [← hXX] at c hX ⊢
    have e5 : (X : Int) / 2 ^ r = ((X / 2 ^ r : Nat) : Int) := by rw [Int.natCast_ediv, Int.natCast_pow]; rfl
    have e6 := and_one (X / 2 ^ r) (Nat.lt_of_le_of_lt (Nat.div_le_self _ _) hX)
    obtain ⟨Y, hY⟩ : ∃ Y, Y = X / 2 ^ r := ⟨_, rfl⟩
    rw [← hY] at e5 e6 ⊢
    have hq2 : (q : Int) < (n : Int) := by omega
    rw [decide_eq_true hlt, Bool.true_and]
    clear h2 h3 hz hq hr hn hXX hY h
    go_enter Tryz.func131, Tryz.ntmps131
    go_wp2
    go_ret
    refine ⟨?_, rfl⟩
    show Ending.returned (.bool ((Y : Int) % 2 == 1)) = _
    congr 2
    by_cases hy : Y % 2 = 1
    · rw [decide_eq_true hy]; simp; omega
    · rw [decide_eq_false hy]; simp; omega
  · have hq2 : ¬ (q : Int) < (n : Int) := by omega
    rw [decide_eq_false hlt, Bool.false_and]
    clear h2 hz hq hr hn h
    go_enter Tryz.func131, Tryz.ntmps131
    go_wp2
    go_ret
    exact ⟨rfl, rfl⟩
/-! ### the closures -/
set_option maxRecDepth 100000 in
theorem gone_crash (c : Nat) (v : Value) (ks : List Nat) (k : Nat) (hk : k < 4611686018427387904) (p : Nat × ByteArray) (hp : p.2.size = 64) (w : World) (hc : w.cell? ⟨c, 0, none⟩ = some v) (h : KeIn w v ks) :
    Calls Tryz.prog 130 #[.int .i64 (k : Int), .agg (wc p).toArray, .pointer (some ⟨c, 0, none⟩)] w fun e w' => e = .returned (.bool (!bit ks k)) ∧ Kp w w' := by
  have kA : Kp w (w.alloc (.cells (wc p).toArray 164)) := (Kp.refl w).alloc _
  have hi := isset_any v ks k hk _ (h.kp kA)
  have hc2 := kA.held hc
  obtain ⟨A, hA⟩ : ∃ A, A = (wc p).toArray := ⟨_, rfl⟩
  rw [← hA] at hi kA hc2 ⊢
  clear hA
  obtain ⟨B, hB⟩ : ∃ B, B = bit ks k := ⟨_, rfl⟩
  rw [← hB] at hi ⊢
  clear hB
  go_enter Tryz.func130, Tryz.ntmps130
  go_wp2_with fail
  refine hi.mono ?_
  rintro e w' ⟨rfl, rfl⟩
  go_wp2
  go_ret
  exact ⟨rfl, kA⟩

/-! ### Crash -/
set_option maxRecDepth 100000 in
set_option maxHeartbeats 1000000 in
theorem crash_any {w : World} {b bn bl : Nat} {rv : Value} {S : MS} (h : MemIn w b bn bl rv S 0 0) (v : Value) (ks : List Nat) (hk : KeIn w v ks) (hv : ∀ t, t ∈ blk b bn bl rv → ∀ g off n c, v = .slice (some ⟨g, off, none⟩) n c → 0 < n → g ≠ t) (hrl : S.row.length < 1000000) :
    Calls Tryz.prog 84 #[.pointer (some ⟨b, 0, none⟩), v] w fun e w' => e = .returned (.tuple #[]) ∧ Md w w' b bn bl rv (cr S (bit ks)) := by
  obtain ⟨c, hc⟩ : ∃ c, c = w.heap.size := ⟨_, rfl⟩
  obtain ⟨W, hW⟩ : ∃ W, W = w.alloc (.cells #[v] 159) := ⟨_, rfl⟩
  have kW : Kp w W := by rw [hW]; exact (Kp.refl w).alloc _
  have hcv : W.cell? ⟨c, 0, none⟩ = some v := by rw [hW, World.cell?_alloc_at _ _ _ _ hc]; rfl
  have hcT : ∀ t, t ∈ blk b bn bl rv → t ≠ c := fun t ht => by have := h.low t ht; omega
  have hv1 : ∃ a n c, v = .slice a n c := by obtain ⟨a, cap, e, _⟩ := hk.h; exact ⟨a, _, cap, e⟩
  have hM := h.kp kW
  have hK := hk.kp kW
  have HW := hid hW
  have HC := hid hc
  clear hW hc h hk
  obtain ⟨a0, n0, c0, hv0⟩ := hv1
  have HV := hid hv0
  clear hv0
  go_enter_defers Tryz.func84, Tryz.ntmps84
  rw [HV.out] at HW ⊢
  go_wp2_with fail
  rw [← HW.out, ← HC.out]
  refine (lock_any hM).mono ?_
  rintro e w1 ⟨rfl, h1, k1⟩
  go_wp2_with fail
  have hKs : ∀ w', Sp (blk b bn bl rv) W w' → KeIn w' v ks ∧ w'.cell? ⟨c, 0, none⟩ = some v := fun w' q => ⟨hK.sp q hv, q.held hcv (fun hm => hcT c hm rfl)⟩
  refine (takeC h1 (fun k _ => bit ks k) (fun w' k p hks hs hp => ?_)).mono ?_
  · obtain ⟨q1, q2⟩ := hKs w' (k1.b.trans hs.rw)
    exact gone_crash c v ks k (by omega) p hp w' q2 q1
  rintro e w2 ⟨rfl, rv2, h2, k2, n2⟩
  go_wp2_with fail
  refine (settle_any h2).mono ?_
  rintro e w3 ⟨rfl, h3, k3⟩
  simp only at h3
  have S3 : Sp (blk b bn bl rv) w w3 := (((kW.sp _).trans k1.b).trans k2).trans k3.bbl
  have cN := h3.cN
  have cL := h3.cL
  have n2' := h3.fine.n2
  have hnn : S.now.length = (pl S.las (tk (fun k x => bit ks k) 0 S.row)).length := by rw [pl_len]; exact hM.fine.nn
  obtain ⟨L, hL⟩ : ∃ L, L = pl S.las (tk (fun k x => bit ks k) 0 S.row) := ⟨_, rfl⟩
  have hcr : cr S (bit ks) = ⟨L, L, [], S.dead, S.c⟩ := by rw [hL]; rfl
  have HCR := hid hcr
  rw [← hL] at h3 cN cL n2' hnn
  simp only at cN cL n2'
  have H3 := hid h3
  clear hcr hL h2 k2 n2 h1 k1 hK hM hKs hcT hcv HV HW HC kW k3 h3
  obtain ⟨m, hm⟩ : ∃ m, m = L.length := ⟨_, rfl⟩
  rw [← hm] at cN cL n2' hnn
  have HM := hid hm
  clear hm
  have q1 := kpw_cell cN
  have q2 := kpw_cell cL
  go_wp2_with fail
  refine wp_region_tailc2 rfl (by kernel_rfl) (by kernel_rfl) (by kernel_rfl) ?_
  simp only [List.dropLast]
  repeat (first
    | go_big_quiet_skip
    | (go_big_quiet_want; go_big_quiet_op; go_big_quiet_on))
  refine wpQuiet_nil ?_
  rintro w9 ⟨q, hp9⟩
  have kD : Kp w3 w9 := by rw [hp9]; exact kpw_kp w3 q
  clear hp9 q1 q2
  have M9 := H3.out.kp kD
  have hcp := run_copy_secs w9 3 bn bl m m m (scs L) (by rw [scs_len L M9.sl.z, HM.out]) (scs_one L) (by have := M9.sn.t; rw [hnn] at this; exact this) M9.sl.all
  have hsp : Sp [bn] w9 (w9.setCells bn 0 (scs L)) := Sp.setCells bn (by simp) _ _ _ (Sp.refl _ _)
  have M10 := M9.nows hsp L (M9.sn.over L (by rw [hnn, HM.out]) M9.sl.z) rfl
  simp only at M10
  have S10 := (S3.trans (kD.sp _)).trans hsp.bn
  obtain ⟨w10, hw10⟩ : ∃ w10, w10 = w9.setCells bn 0 (scs L) := ⟨_, rfl⟩
  rw [← hw10] at hcp M10 S10
  clear M9 hsp hw10 H3 S3 kD cN cL
  refine wpList_copy_run rfl (.tmp 21) (.tmp 25) 128 128 rfl _ _ _ _ rfl rfl hcp ?_
  go_wp2_with fail
  refine leaves_cons (f := 55) (args := #[.pointer (some ⟨b, 4, none⟩)]) (by simp) (by simp [go_sem]) ?_
  refine (unlock_any M10 .returning).mono ?_
  rintro e u' w11 ⟨rfl, rfl, h11, k11⟩
  refine ⟨_, results_none rfl _ _ _, rfl, ?_⟩
  rw [HCR.out]
  exact ⟨_, h11, S10.trans k11.b, Nw.none _ _ _ _ _⟩

/-! ### Rot -/

end Go.Proofs.YtinpkfdmellleaaGreat

namespace Go.Proofs.YtinpkfdmellleaaGreat
open Go.RowKit Plain
set_option linter.unusedVariables false

/-- numbers in a block. -/
structure Nm (w : World) (g n : Nat) (f : Nat → Int) : Prop where
  c : ∀ i, i < n → w.cell? ⟨g, i, none⟩ = some (.int .i64 (f i))
  z : ∀ i, i < n → w.frozen? ⟨g, i, none⟩ = false
theorem Nm.kp {w w' : World} {g n : Nat} {f : Nat → Int} (h : Nm w g n f) (k : Kp w w') : Nm w' g n f := ⟨fun i hi => k.held (h.c i hi), fun i hi => (Below.frozen (p := ⟨g, i, none⟩) k (World.block_lt_of_cell? w _ (h.c i hi))).trans (h.z i hi)⟩
theorem Nm.set {w : World} {g n : Nat} {f : Nat → Int} (h : Nm w g n f) (j : Nat) (x : Int) : Nm (w.setCell ⟨g, j, none⟩ (.int .i64 x)) g n (fun i => if i = j then x else f i) :=
  ⟨fun i hi => by
    by_cases e : i = j
    · subst e; show _ = some (Value.int .i64 (if i = i then x else f i)); rw [if_pos rfl]; exact World.cell?_setCell_same _ _ _ (h.c i hi)
    · show _ = some (Value.int .i64 (if i = j then x else f i)); rw [if_neg e, cell_off _ _ _ _ _ e]; exact h.c i hi, fun i hi => (World.frozen?_setCell _ _ _ _).trans (h.z i hi)⟩
theorem Nm.congr {w : World} {g n : Nat} {f f' : Nat → Int} (h : Nm w g n f) (e : ∀ i, i < n → f i = f' i) : Nm w g n f' := ⟨fun i hi => by rw [← e i hi]; exact h.c i hi, h.z⟩
theorem Nm.made (w : World) (n : Nat) : Nm (w.alloc (.cells (madeCells #[.int .i64 0] n) 3)) w.heap.size n (fun _ => 0) :=
  ⟨fun i hi => by rw [World.cell?_alloc_at _ _ _ _ rfl]; simp [madeCells, hi, Nat.mod_one], fun i hi => World.frozen?_alloc_at _ _ _ _ rfl⟩
def atF (r : List (Nat × ByteArray)) (k : Nat) : Nat → Int := fun i => if i < k then ((r.getD i (0, noS)).1 : Int) else 0

end Go.Proofs.YtinpkfdmellleaaGreat

namespace Go.Proofs.YtinpkfdmellleaaGreat
open Go.RowKit Plain
set_option linter.unusedVariables false

/-- the bytes of an act. -/
def scS (x : Nat) (odd : Bool) : ByteArray := bs 1 (fun _ => x) ++ bs (if odd then 62 else 63) (fun _ => 0)
theorem scS_size (x : Nat) : (scS x false).size = 64 := by
  unfold scS
  rw [ByteArray.size_append, bs_size, bs_size]
  rfl
theorem scS_odd (x : Nat) : (scS x true).size = 63 := by
  unfold scS
  rw [ByteArray.size_append, bs_size, bs_size]
  rfl
theorem conv_of (W : World) (g n : Nat) (f : Nat → Nat) (h : ∀ i, i < n → W.cell? ⟨g, i, none⟩ = some (.int .u8 ((f i : Nat) : Int))) : (convert 37 9 (.slice (some ⟨g, 0, none⟩) n n)).run Tryz.prog W = .ok (.string (bs n f)) W := by
  refine run_convert_bytes_arg (P := Tryz.prog) W 37 5 Tryz.underlying37 Tryz.underlying5 g 0 n n ((List.range n).map fun i => ((f i : Nat) : Int)) (by simp) (fun i hi => ?_) 9 Tryz.underlying9
  rw [Nat.zero_add, h i (by simpa using hi)]
  simp only [List.getD_eq_getElem?_getD, List.getElem?_map]
  rw [List.getElem?_range (by simpa using hi)]
  rfl

/-! ### what the document fixes -/
theorem nw3 : nw (nwN 3) = ⟨[z64, z64, z64], [z64, z64, z64], [], false, fun _ => 0⟩ := rfl
theorem rc_live {L M : List ByteArray} {r : List (Nat × ByteArray)} {c : Nat → Int} (h : 0 < M.length) : rcE ⟨L, M, r, false, c⟩ 0 = 0 := by
  unfold rcE
  rw [if_neg (by simp), if_pos ⟨by omega, by show (0 : Int) < (M.length : Int); omega⟩]
theorem wr_live {L M : List ByteArray} {r : List (Nat × ByteArray)} {c : Nat → Int} (h : 0 < M.length) (s : ByteArray) (hs : s.size = 64) : wrE ⟨L, M, r, false, c⟩ 0 s = 0 ∧ wr ⟨L, M, r, false, c⟩ 0 s = ⟨L.set 0 s, M, r ++ [(0, s)], false, up c 1⟩ := by
  have h1 : wrE ⟨L, M, r, false, c⟩ 0 s = 0 := by unfold wrE; rw [if_pos (rc_live h), if_pos hs]
  exact ⟨h1, if_pos h1⟩
/-- a member of the call's own since w0. -/
def Ow (w0 w : World) (b : Nat) (T : List Nat) (S : MS) : Prop := ∃ bn bl rv, T = blk b bn bl rv ∧ MemIn w b bn bl rv S 0 0 ∧ ∀ t, t ∈ T → w0.heap.size ≤ t
/-- behind a call on it. -/
def Nx (w0 w w' : World) (b : Nat) (T : List Nat) (S : MS) : Prop := ∃ T', Ow w0 w' b T' S ∧ Sp T w w' ∧ Nw w T T'
theorem Ow.low {w0 w : World} {b : Nat} {T : List Nat} {S : MS} (h : Ow w0 w b T S) : ∀ t, t ∈ T → t < w.heap.size := by
  obtain ⟨bn, bl, rv, rfl, h1, _⟩ := h
  exact h1.low
theorem Ow.new {w0 w : World} {b : Nat} {T : List Nat} {S : MS} (h : Ow w0 w b T S) : ∀ t, t ∈ T → w0.heap.size ≤ t := by
  obtain ⟨bn, bl, rv, rfl, _, h2⟩ := h
  exact h2
theorem Ow.sp {w0 w w' : World} {b : Nat} {T : List Nat} {S : MS} (h : Ow w0 w b T S) {T' : List Nat} (k : Sp T' w w') (hT : ∀ t, t ∈ T → t ∉ T') : Ow w0 w' b T S := by
  obtain ⟨bn, bl, rv, rfl, h1, h2⟩ := h
  exact ⟨bn, bl, rv, rfl, h1.sp k hT, h2⟩
theorem Ow.kp {w0 w w' : World} {b : Nat} {T : List Nat} {S : MS} (h : Ow w0 w b T S) (k : Kp w w') : Ow w0 w' b T S := h.sp (k.sp []) (fun _ _ h => by cases h)
theorem Ow.fine {w0 w : World} {b : Nat} {T : List Nat} {S : MS} (h : Ow w0 w b T S) : Fine S := by
  obtain ⟨bn, bl, rv, rfl, h1, _⟩ := h
  exact h1.fine
theorem Nx.kp {w0 w w' : World} {b : Nat} {T : List Nat} {S S' : MS} (h : Nx w0 w w' b T S) (h0 : Ow w0 w b T S') (k : Kp w0 w) : Kp w0 w' := by
  obtain ⟨T', h1, h2, h3⟩ := h
  exact Sp.kp k h2 h0.new
theorem Ow.nx {w0 w w' : World} {b bn bl : Nat} {rv : Value} {S' : MS} (k : Kp w0 w) (h2 : ∀ t, t ∈ blk b bn bl rv → w0.heap.size ≤ t) (h : Md w w' b bn bl rv S') : Nx w0 w w' b (blk b bn bl rv) S' := by
  obtain ⟨rv', h1, h3, h4⟩ := h
  refine ⟨_, ⟨bn, bl, rv', rfl, h1, fun t ht => ?_⟩, h3, h4⟩
  rcases h4 t ht with h5 | h5
  · exact h2 t h5
  · exact Nat.le_trans k.size h5
theorem ow_new (k : Int) (w0 w : World) (K : Kp w0 w) : Calls Tryz.prog 46 #[.int .i64 k] w fun e w' => ∃ b T, e = .returned (.pointer (some ⟨b, 0, none⟩)) ∧ Ow w0 w' b T (nw (nwN k)) ∧ Kp w w' ∧ (∀ t, t ∈ T → w.heap.size ≤ t) := by
  refine (new_any k w).mono ?_
  rintro e w' ⟨b, bn, bl, rfl, h1, h2, h3, h4, h5⟩
  have hT : ∀ t, t ∈ blk b bn bl (.slice none 0 0) → w.heap.size ≤ t := fun t ht => by
    simp only [blk, Value.ownBlock, List.mem_cons] at ht
    rcases ht with rfl | rfl | rfl | ht
    · exact h3
    · exact h4
    · exact h5
    · cases ht
  exact ⟨b, _, rfl, ⟨bn, bl, _, rfl, h1, fun t ht => Nat.le_trans K.size (hT t ht)⟩, h2, hT⟩
theorem ow_write {w0 w : World} {b : Nat} {T : List Nat} {S : MS} (h : Ow w0 w b T S) (K : Kp w0 w) (k : Int) (s : ByteArray) (hr : S.row.length < 1000000) : Calls Tryz.prog 49 #[.pointer (some ⟨b, 0, none⟩), .int .i64 k, .string s] w fun e w' => e = .returned (.int .i64 (wrE S k s)) ∧ Nx w0 w w' b T (wr S k s) := by
  obtain ⟨bn, bl, rv, rfl, h1, h2⟩ := h
  exact (write_any h1 k s hr).mono fun e w' ⟨he, hm⟩ => ⟨he, Ow.nx K h2 hm⟩
theorem ow_read {w0 w : World} {b : Nat} {T : List Nat} {S : MS} (h : Ow w0 w b T S) (K : Kp w0 w) (k : Int) : Calls Tryz.prog 26 #[.pointer (some ⟨b, 0, none⟩), .int .i64 k] w fun e w' => e = .returned (.tuple #[.string (rdS S k), .int .i64 (rcE S k)]) ∧ Nx w0 w w' b T (rd S k) := by
  obtain ⟨bn, bl, rv, rfl, h1, h2⟩ := h
  exact (read_any h1 k).mono fun e w' ⟨he, hm⟩ => ⟨he, Ow.nx K h2 hm⟩
theorem ow_flush {w0 w : World} {b : Nat} {T : List Nat} {S : MS} (h : Ow w0 w b T S) (K : Kp w0 w) : Calls Tryz.prog 139 #[.pointer (some ⟨b, 0, none⟩)] w fun e w' => e = .returned (.int .i64 (flE S)) ∧ Nx w0 w w' b T (fl S) := by
  obtain ⟨bn, bl, rv, rfl, h1, h2⟩ := h
  exact (flush_any h1).mono fun e w' ⟨he, hm⟩ => ⟨he, Ow.nx K h2 hm⟩
theorem ow_fail {w0 w : World} {b : Nat} {T : List Nat} {S : MS} (h : Ow w0 w b T S) (K : Kp w0 w) : Calls Tryz.prog 17 #[.pointer (some ⟨b, 0, none⟩)] w fun e w' => e = .returned (.tuple #[]) ∧ Nx w0 w w' b T (fa S) := by
  obtain ⟨bn, bl, rv, rfl, h1, h2⟩ := h
  exact (fail_any h1).mono fun e w' ⟨he, hm⟩ => ⟨he, Ow.nx K h2 hm⟩
theorem ow_replace {w0 w : World} {b : Nat} {T : List Nat} {S : MS} (h : Ow w0 w b T S) (K : Kp w0 w) : Calls Tryz.prog 83 #[.pointer (some ⟨b, 0, none⟩)] w fun e w' => e = .returned (.tuple #[]) ∧ Nx w0 w w' b T (rp S) := by
  obtain ⟨bn, bl, rv, rfl, h1, h2⟩ := h
  exact (replace_any h1).mono fun e w' ⟨he, hm⟩ => ⟨he, Ow.nx K h2 hm⟩
theorem ow_crash {w0 w : World} {b : Nat} {T : List Nat} {S : MS} (h : Ow w0 w b T S) (K : Kp w0 w) (v : Value) (ks : List Nat) (hk : KeIn w v ks) (hv : ∀ t, t ∈ T → ∀ g off n c, v = .slice (some ⟨g, off, none⟩) n c → 0 < n → g ≠ t) (hr : S.row.length < 1000000) : Calls Tryz.prog 84 #[.pointer (some ⟨b, 0, none⟩), v] w fun e w' => e = .returned (.tuple #[]) ∧ Nx w0 w w' b T (cr S (bit ks)) := by
  obtain ⟨bn, bl, rv, rfl, h1, h2⟩ := h
  exact (crash_any h1 v ks hk hv hr).mono fun e w' ⟨he, hm⟩ => ⟨he, Ow.nx K h2 hm⟩
theorem ow_dead {w0 w : World} {b : Nat} {T : List Nat} {S : MS} (h : Ow w0 w b T S) (K : Kp w0 w) : Calls Tryz.prog 36 #[.pointer (some ⟨b, 0, none⟩)] w fun e w' => e = .returned (.bool S.dead) ∧ Nx w0 w w' b T S := by
  obtain ⟨bn, bl, rv, rfl, h1, h2⟩ := h
  exact (dead_any h1).mono fun e w' ⟨he, hm⟩ => ⟨he, Ow.nx K h2 hm⟩
theorem ow_size {w0 w : World} {b : Nat} {T : List Nat} {S : MS} (h : Ow w0 w b T S) : Calls Tryz.prog 106 #[.pointer (some ⟨b, 0, none⟩)] w fun e w' => e = .returned (.int .i64 (S.las.length : Int)) ∧ w' = w := by
  obtain ⟨bn, bl, rv, rfl, h1, h2⟩ := h
  exact size_any h1
theorem ke_one (w : World) (x : Nat) (hx : x < 18446744073709551616) (k : Nat) (hk : k = w.heap.size) : KeIn (w.alloc (.cells #[.int .u64 (x : Int)] 180)) (.slice (some ⟨k, 0, none⟩) 1 1) [x] :=
  ⟨⟨_, 1, rfl, by simp, by omega, fun _ => ⟨k, 0, rfl, fun i hi => by
    obtain rfl : i = 0 := by simp at hi; omega
    rw [World.cell?_alloc_at _ _ _ _ hk]; rfl⟩⟩, fun y hy => by rw [List.mem_singleton.1 hy]; exact hx⟩


end Go.Proofs.YtinpkfdmellleaaGreat

namespace Go.Proofs.YtinpkfdmellleaaGreat
open Go.ChangeShapes Go.WideShapes Go.ChangeAt Go.RowKit Plain
set_option linter.unusedVariables false

/-- an act. -/
structure AC where
  op : Int
  at_ : Int
  data : Nat
  odd : Bool
  kv : Value
  ks : List Nat
/-- an act's cells. -/
def acs (a : AC) : List Value := [.int .i64 a.op, .int .i64 a.at_, .int .u8 (a.data : Int), .bool a.odd, a.kv]
def aV (a : AC) : Value := .agg (acs a).toArray
structure AOk (w : World) (a : AC) : Prop where
  w1 : (Lit.int .i64 a.op).wf = true
  w2 : (Lit.int .i64 a.at_).wf = true
  d : a.data < 256
  k : KeIn w a.kv a.ks
def noA : AC := ⟨0, 0, 0, false, .slice none 0 0, []⟩
structure ActsIn (w : World) (v : Value) (L : List AC) : Prop where
  h : ∃ a cap, v = .slice a L.length cap ∧ L.length ≤ cap ∧ cap ≤ 9223372036854775807 ∧ (0 < L.length → ∃ g off, a = some ⟨g, off, none⟩ ∧ ∀ i, i < L.length → w.rangeAt g (off + i * 5) (acs (L.getD i noA)))
  ok : ∀ i, i < L.length → AOk w (L.getD i noA)
theorem AOk.kp {w w' : World} {a : AC} (h : AOk w a) (k : Kp w w') : AOk w' a := ⟨h.w1, h.w2, h.d, h.k.kp k⟩
theorem ActsIn.kp {w w' : World} {v : Value} {L : List AC} (h : ActsIn w v L) (k : Kp w w') : ActsIn w' v L := by
  obtain ⟨a, cap, rfl, h1, h2, h3⟩ := h.h
  refine ⟨⟨a, cap, rfl, h1, h2, fun h0 => ?_⟩, fun i hi => (h.ok i hi).kp k⟩
  obtain ⟨g, off, rfl, h4⟩ := h3 h0
  exact ⟨g, off, rfl, fun i hi => (k.sp []).range (h4 i hi) (by simp)⟩

section
variable {H : Type} {enc : TypeId × Value → H} {P : Program}
theorem open_words {t e : TypeId} {W : World} {fuel : Nat} {v : Value} {x : DataW H × List MemPlace} (ht : P.underlying t = some (.slice e)) (he : P.underlying e = some (.int .u64)) (hc : P.cellsOf e = 1)
    (hf : DataW.trod enc P W 0 (fun _ => true) true fuel t [v] = some x) : ∃ ks : List Nat, KeIn W v ks := by
  rcases open_ints ht he hc hf with ⟨hcs, _⟩ | ⟨a, len, cap, zs, hcs, _, hl, hm, hz, _, hcell, hwf⟩
  · simp at hcs
    subst hcs
    exact ⟨[], ⟨⟨none, 0, rfl, by simp, by omega, fun h => absurd h (by simp)⟩, fun y hy => (by cases hy)⟩⟩
  · simp at hcs
    subst hcs
    simp only [if_true] at hz
    have hm2 : cap ≤ 9223372036854775807 := by unfold maxLen at hm; omega
    have hlen : ((zs.take len).map Int.toNat).length = len := by rw [List.length_map, List.length_take]; omega
    have hin : ∀ i, i < len → 0 ≤ zs.getD i 0 ∧ zs.getD i 0 < 18446744073709551616 := fun i hi => by
      have hi2 : i < zs.length := by omega
      have h1 := hwf (zs.getD i 0) (by rw [List.getD_eq_getElem?_getD, List.getElem?_eq_getElem hi2]; exact List.getElem_mem hi2)
      have h2 := bounds_u64 h1
      omega
    have hat : ∀ i, i < len → ((((zs.take len).map Int.toNat).getD i 0 : Nat) : Int) = zs.getD i 0 := fun i hi => by
      have h1 := hin i hi
      rw [List.getD_eq_getElem?_getD, List.getElem?_map, List.getElem?_take_of_lt hi]
      rw [List.getD_eq_getElem?_getD] at h1 ⊢
      rw [List.getElem?_eq_getElem (by omega)] at h1 ⊢
      simp at h1 ⊢
      omega
    refine ⟨(zs.take len).map Int.toNat, ⟨⟨some a, cap, by rw [hlen], by rw [hlen]; omega, hm2, fun h0 => ?_⟩, fun y hy => ?_⟩⟩
    · rw [hlen] at h0
      obtain ⟨b, off, spot⟩ := a
      have hspot : spot = none := by simpa [Addr.add] using World.cell?_spot (hcell 0 (by omega))
      subst hspot
      refine ⟨b, off, rfl, fun i hi => ?_⟩
      rw [hlen] at hi
      have hci := hcell i (by omega)
      have ei : (Addr.add ⟨b, off, none⟩ i) = ⟨b, off + i, none⟩ := by simp [Addr.add]
      rw [ei] at hci
      rw [hci, hat i hi]
    · obtain ⟨z, hz1, rfl⟩ := List.mem_map.1 hy
      obtain ⟨i, hi, rfl⟩ := List.getElem_of_mem hz1
      have hi2 : i < len := by rw [List.length_take] at hi; omega
      have h1 := hin i hi2
      rw [List.getElem_take]
      rw [List.getD_eq_getElem?_getD, List.getElem?_eq_getElem (by omega)] at h1
      simp at h1
      omega
theorem open_act5 {t f0 f1 f2 f3 f4 : TypeId} {W : World} {fuel : Nat} {cs : List Value} {x : DataW H × List MemPlace} (F : Array Field) (hu : P.underlying t = some (.struct F)) (hF : F.toList.map (fun f => (f.type, f.offset)) = [(f0, 0), (f1, 1), (f2, 2), (f3, 3), (f4, 4)])
    (c0 : P.cellsOf f0 = 1) (c1 : P.cellsOf f1 = 1) (c2 : P.cellsOf f2 = 1) (c3 : P.cellsOf f3 = 1) (c4 : P.cellsOf f4 = 1) (ct : P.cellsOf t = 5)
    (e0 : P.underlying f0 = some (.int .i64)) (e1 : P.underlying f1 = some (.int .i64)) (e2 : P.underlying f2 = some (.int .u8)) (e3 : P.underlying f3 = some .bool) (e : TypeId) (e4 : P.underlying f4 = some (.slice e)) (e5 : P.underlying e = some (.int .u64)) (c5 : P.cellsOf e = 1)
    (h : DataW.trod enc P W 0 (fun _ => true) true fuel t cs = some x) : ∃ a : AC, cs = acs a ∧ AOk W a := by
  obtain ⟨xs, k, hk, hxy, hcl, hxl, hff⟩ := DataW.trod_struct hu h
  have hsz : F.toList.length = 5 := by have := congrArg List.length hF; simpa using this
  obtain ⟨Fl⟩ := F
  match Fl, hsz with
  | [g0, g1, g2, g3, g4], _ =>
    simp only [List.map_cons, List.map_nil, List.cons.injEq, Prod.mk.injEq, and_true] at hF
    obtain ⟨⟨rfl, o0⟩, ⟨rfl, o1⟩, ⟨rfl, o2⟩, ⟨rfl, o3⟩, ⟨rfl, o4⟩⟩ := hF
    have q0 := hff 0 g0 rfl
    have q1 := hff 1 g1 rfl
    have q2 := hff 2 g2 rfl
    have q3 := hff 3 g3 rfl
    have q4 := hff 4 g4 rfl
    rw [ct] at hcl
    match xs, hxl, cs, hcl with
    | [y0, y1, y2, y3, y4], _, [v0, v1, v2, v3, v4], _ =>
      simp [o0, o1, o2, o3, o4, c0, c1, c2, c3, c4] at q0 q1 q2 q3 q4
      obtain ⟨a, ea, _, wa⟩ := DataW.trod_int e0 q0
      obtain ⟨b, eb, _, wb⟩ := DataW.trod_int e1 q1
      obtain ⟨c, ec, _, wc⟩ := DataW.trod_int e2 q2
      obtain ⟨d, ed, _⟩ := DataW.trod_bool e3 q3
      obtain ⟨ks, hks⟩ := open_words e4 e5 c5 q4
      simp at ea eb ec ed
      subst ea; subst eb; subst ec; subst ed
      have hc2 : 0 ≤ c ∧ c < 256 := by
        have h2 := bounds_u8 wc
        omega
      refine ⟨⟨a, b, c.toNat, d, v4, ks⟩, ?_, ⟨wa, wb, by show c.toNat < 256; omega, hks⟩⟩
      show _ = [Value.int .i64 a, Value.int .i64 b, Value.int .u8 ((c.toNat : Nat) : Int), Value.bool d, v4]
      rw [show ((c.toNat : Nat) : Int) = c by omega]
end

set_option maxRecDepth 100000 in
theorem open_kept {H : Type} {enc : TypeId × Value → H} {W : World} {b0 : Nat} {v : Value} {d : DataW H} {ps : List MemPlace} (hv : Value.okWide Tryz.prog W .any b0 159 v) (h : DataW.Trod enc Tryz.prog W 0 (fun _ => true) true 159 v d ps) : ∃ ks : List Nat, KeIn W v ks := by
  obtain ⟨a0, len, cap, rfl⟩ := okWide_slice Tryz.underlying159 hv
  obtain ⟨fuel, hf⟩ := h
  exact open_words Tryz.underlying159 Tryz.underlying180 (by kernel_rfl) hf

end Go.Proofs.YtinpkfdmellleaaGreat

namespace Go.Proofs.YtinpkfdmellleaaGreat
open Go.RowKit Plain
set_option linter.unusedVariables false

open Classical in
noncomputable def prw (R : World → Prop) (w : World) (p : List World) : World := if R (p.headD w) then p.headD w else w
theorem prw_ok {R : World → Prop} {w : World} (h : R w) (p : List World) : R (prw R w p) := by
  unfold prw
  split
  · assumption
  · exact h
theorem prw_of {R : World → Prop} {w w' : World} (h : R w') : ∃ p, w' = prw R w p := ⟨[w'], by
  unfold prw
  rw [if_pos]
  · rfl
  · exact h⟩
theorem wp_region_pr {P : Program} {id : Nat} {Q : Exit → Act → World → Prop} {a : Act} {w : World} {l : List Oper} (R : World → Prop) (hR : R w.drew) (hm : P.follows .mixedOrders = true) (hB : Region.lexB .any l.toArray = true)
    (h : wpQuiet P l.toArray (fun w' => ∃ p, w' = prw R w.drew p) (fun a' => ∀ w', (∃ p, w' = prw R w.drew p) → Q .normal a' w') l a) : (Code.region id l.toArray true).wp P Q a w :=
  wp_region_quiet (C := fun w' => ∃ p, w' = prw R w.drew p) hm hB (prw_of hR) (by simpa using h)
/-- a contract, met in such a world. -/
theorem pr_call {P : Program} {f : FuncId} {args : Array Value} {R : World → Prop} {w : World} {p : List World} {v : Value}
    (h : Calls P f args (prw R w p) fun e w' => e = .returned v ∧ R w') : Calls P f args (prw R w p) fun e w'' => e = .returned v ∧ ∃ p, w'' = prw R w p :=
  h.mono fun _ _ ⟨he, k⟩ => ⟨he, prw_of k⟩

/-! ### nil -/
theorem nil_read (k : Int) (w : World) : Calls Tryz.prog 26 #[.pointer none, .int .i64 k] w fun e w' => e = .returned (.tuple #[.string ByteArray.empty, .int .i64 1]) ∧ w' = w := by
  go_enter_defers Tryz.func26, Tryz.ntmps26
  go_wp2
  exact ⟨_, results_tmp2 rfl _ _ _, rfl, rfl⟩
theorem nil_write (k : Int) (s : ByteArray) (w : World) : Calls Tryz.prog 49 #[.pointer none, .int .i64 k, .string s] w fun e w' => e = .returned (.int .i64 1) ∧ w' = w := by
  go_enter_defers Tryz.func49, Tryz.ntmps49
  go_wp2
  exact ⟨_, results_tmp rfl _ _ _, rfl, rfl⟩
theorem nil_flush (w : World) : Calls Tryz.prog 139 #[.pointer none] w fun e w' => e = .returned (.int .i64 1) ∧ w' = w := by
  go_enter_defers Tryz.func139, Tryz.ntmps139
  go_wp2
  exact ⟨_, results_tmp rfl _ _ _, rfl, rfl⟩
theorem nil_fail (w : World) : Calls Tryz.prog 17 #[.pointer none] w fun e w' => e = .returned (.tuple #[]) ∧ w' = w := by
  go_enter_defers Tryz.func17, Tryz.ntmps17
  go_wp2
  exact ⟨_, results_none rfl _ _ _, rfl, rfl⟩
theorem nil_dead (w : World) : Calls Tryz.prog 36 #[.pointer none] w fun e w' => e = .returned (.bool false) ∧ w' = w := by
  go_enter_defers Tryz.func36, Tryz.ntmps36
  go_wp2
  exact ⟨_, results_tmp rfl _ _ _, rfl, rfl⟩
theorem nil_replace (w : World) : Calls Tryz.prog 83 #[.pointer none] w fun e w' => e = .returned (.tuple #[]) ∧ w' = w := by
  go_enter_defers Tryz.func83, Tryz.ntmps83
  go_wp2
  exact ⟨_, results_none rfl _ _ _, rfl, rfl⟩
theorem nil_size (w : World) : Calls Tryz.prog 106 #[.pointer none] w fun e w' => e = .returned (.int .i64 0) ∧ w' = w := by
  go_enter Tryz.func106, Tryz.ntmps106
  go_wp2
  go_ret
  exact ⟨rfl, rfl⟩
theorem nil_crash (v : Value) (hv : ∃ a n c, v = .slice a n c) (w : World) : Calls Tryz.prog 84 #[.pointer none, v] w fun e w' => e = .returned (.tuple #[]) ∧ Kp w w' := by
  obtain ⟨a, n, c, rfl⟩ := hv
  go_enter_defers Tryz.func84, Tryz.ntmps84
  go_wp2
  exact ⟨_, results_none rfl _ _ _, rfl, (Kp.refl w).alloc _⟩

end Go.Proofs.YtinpkfdmellleaaGreat

namespace Go.Proofs.YtinpkfdmellleaaGreat
open Go.RowKit Plain
set_option linter.unusedVariables false

/-! ### writes of acts -/
def wrs : MS → List AC → MS
  | S, [] => S
  | S, a :: L => wrs (wr S a.at_ (scS a.data false)) L
theorem wrs_app : ∀ (L M : List AC) (S : MS), wrs S (L ++ M) = wrs (wrs S L) M
  | [], _, _ => rfl
  | a :: L, M, S => by simp only [wrs, List.cons_append, wrs_app L M]
theorem wrs_take (S : MS) (L : List AC) (k : Nat) (h : k < L.length) : wrs S (L.take (k + 1)) = wr (wrs S (L.take k)) (L.getD k noA).at_ (scS (L.getD k noA).data false) := by
  have e : L.take (k + 1) = L.take k ++ [L.getD k noA] := by
    rw [List.take_add_one, List.getElem?_eq_getElem h, List.getD_eq_getElem?_getD, List.getElem?_eq_getElem h]
    rfl
  rw [e, wrs_app]
  rfl
theorem wr_row (S : MS) (k : Int) (s : ByteArray) : (wr S k s).row.length ≤ S.row.length + 1 ∧ (wr S k s).dead = S.dead ∧ (wr S k s).las = S.las := by
  unfold wr
  split
  · exact ⟨by simp, rfl, rfl⟩
  · exact ⟨by omega, rfl, rfl⟩
theorem wrs_row : ∀ (L : List AC) (S : MS), (wrs S L).row.length ≤ S.row.length + L.length ∧ (wrs S L).dead = S.dead ∧ (wrs S L).las = S.las
  | [], S => ⟨by simp [wrs], rfl, rfl⟩
  | a :: L, S => by
    have h1 := wrs_row L (wr S a.at_ (scS a.data false))
    have h2 := wr_row S a.at_ (scS a.data false)
    simp only [wrs, List.length_cons]
    exact ⟨by omega, h1.2.1.trans h2.2.1, h1.2.2.trans h2.2.2⟩
theorem wrs_right : ∀ (L : List AC) (S : MS), Right S → Right (wrs S L)
  | [], _, h => h
  | a :: L, S, h => wrs_right L _ (h.wr _ _)
theorem wrs_fine : ∀ (L : List AC) (S : MS), Fine S → Fine (wrs S L)
  | [], _, h => h
  | a :: L, S, h => wrs_fine L _ (h.wr _ _)

/-! ### acts in memory -/
theorem ActsIn.take {w : World} {v : Value} {L : List AC} (h : ActsIn w v L) (m : Nat) (hm : m ≤ L.length) : ∃ a cap, v = .slice a L.length cap ∧ L.length ≤ cap ∧ cap ≤ 9223372036854775807 ∧ (0 < m → ∃ g off, a = some ⟨g, off, none⟩ ∧ ∀ i, i < m → w.rangeAt g (off + i * 5) (acs (L.getD i noA))) := by
  obtain ⟨a, cap, rfl, h1, h2, h3⟩ := h.h
  refine ⟨a, cap, rfl, h1, h2, fun h0 => ?_⟩
  obtain ⟨g, off, rfl, h4⟩ := h3 (by omega)
  exact ⟨g, off, rfl, fun i hi => h4 i (by omega)⟩
theorem acs_cells {w : World} {g o : Nat} {a : AC} (h : w.rangeAt g o (acs a)) : w.cell? ⟨g, o, none⟩ = some (.int .i64 a.op) ∧ w.cell? ⟨g, o + 1, none⟩ = some (.int .i64 a.at_) ∧ w.cell? ⟨g, o + 2, none⟩ = some (.int .u8 (a.data : Int)) ∧ w.cell? ⟨g, o + 3, none⟩ = some (.bool a.odd) ∧ w.cell? ⟨g, o + 4, none⟩ = some a.kv :=
  ⟨h 0 _ rfl, h 1 _ rfl, h 2 _ rfl, h 3 _ rfl, h 4 _ rfl⟩

/-! ### several members -/
def Dj (T T' : List Nat) : Prop := ∀ t, t ∈ T → t ∉ T'
theorem Dj.symm {T T' : List Nat} (h : Dj T T') : Dj T' T := fun t h1 h2 => h t h2 h1
theorem Nx.keep {w0 w w' : World} {b b2 : Nat} {T T2 T' : List Nat} {S S2 : MS} (h2 : Sp T w w') (h3 : Nw w T T') (o : Ow w0 w b2 T2 S2) (d : Dj T2 T) : Ow w0 w' b2 T2 S2 ∧ Dj T2 T' :=
  ⟨o.sp h2 d, fun t ht ht' => by
    rcases h3 t ht' with h | h
    · exact d t ht h
    · have := o.low t ht; omega⟩
/-- three members. -/
def Tri (w0 w : World) (T : List Nat) (x y z : Nat) (A B C : MS) : Prop := ∃ P Q R, T = P ++ (Q ++ R) ∧ Ow w0 w x P A ∧ Ow w0 w y Q B ∧ Ow w0 w z R C ∧ Dj P Q ∧ Dj P R ∧ Dj Q R
theorem Tri.new {w0 w : World} {T : List Nat} {x y z : Nat} {A B C : MS} (h : Tri w0 w T x y z A B C) : ∀ t, t ∈ T → w0.heap.size ≤ t := by
  obtain ⟨P, Q, R, rfl, h1, h2, h3, _⟩ := h
  intro t ht
  simp only [List.mem_append] at ht
  rcases ht with ht | ht | ht
  · exact h1.new t ht
  · exact h2.new t ht
  · exact h3.new t ht
theorem Tri.low {w0 w : World} {T : List Nat} {x y z : Nat} {A B C : MS} (h : Tri w0 w T x y z A B C) : ∀ t, t ∈ T → t < w.heap.size := by
  obtain ⟨P, Q, R, rfl, h1, h2, h3, _⟩ := h
  intro t ht
  simp only [List.mem_append] at ht
  rcases ht with ht | ht | ht
  · exact h1.low t ht
  · exact h2.low t ht
  · exact h3.low t ht
theorem Tri.kp {w0 w w' : World} {T : List Nat} {x y z : Nat} {A B C : MS} (h : Tri w0 w T x y z A B C) (k : Kp w w') : Tri w0 w' T x y z A B C := by
  obtain ⟨P, Q, R, rfl, h1, h2, h3, h4⟩ := h
  exact ⟨P, Q, R, rfl, h1.kp k, h2.kp k, h3.kp k, h4⟩
/-- from W on, in turn. -/
def Tx (w0 W : World) (T : List Nat) (x y z : Nat) (A B C : MS) (w' : World) : Prop := ∃ T', Tri w0 w' T' x y z A B C ∧ Sp T W w' ∧ Nw W T T'
theorem Tx.kp {w0 W w' w'' : World} {T : List Nat} {x y z : Nat} {A B C : MS} (h : Tx w0 W T x y z A B C w') (k : Kp w' w'') : Tx w0 W T x y z A B C w'' := by
  obtain ⟨T', h1, h2, h3⟩ := h
  exact ⟨T', h1.kp k, h2.trans (k.sp _), h3⟩
theorem Tx.refl {w0 W : World} {T : List Nat} {x y z : Nat} {A B C : MS} (h : Tri w0 W T x y z A B C) : Tx w0 W T x y z A B C W := ⟨T, h, Sp.refl _ _, Nw.refl _ _⟩
theorem Tx.below {w0 W w' : World} {T : List Nat} {x y z : Nat} {A B C : MS} (h : Tx w0 W T x y z A B C w') (K : Kp w0 W) (hT : ∀ t, t ∈ T → w0.heap.size ≤ t) : Kp w0 w' := by
  obtain ⟨T', h1, h2, h3⟩ := h
  exact Sp.kp K h2 hT
theorem Tx.held {w0 W w' : World} {T : List Nat} {x y z : Nat} {A B C : MS} (h : Tx w0 W T x y z A B C w') {b o : Nat} {v : Value} (hc : W.cell? ⟨b, o, none⟩ = some v) (hb : b ∉ T) : w'.cell? ⟨b, o, none⟩ = some v := by
  obtain ⟨T', h1, h2, h3⟩ := h
  exact h2.held hc hb
theorem Tx.trans {w0 W W' w' : World} {T T' : List Nat} {x' y' z' : Nat} {A' B' C' : MS} (h2 : Sp T W W') (h3 : Nw W T T') (h : Tx w0 W' T' x' y' z' A' B' C' w') : Tx w0 W T x' y' z' A' B' C' w' := by
  obtain ⟨T2, q1, q2, q3⟩ := h
  exact ⟨T2, q1, h2.then q2 h3, h3.trans q3 h2.size⟩
theorem mem3 {P P' Q R : List Nat} {w : World} (h : Nw w P P') : Nw w (P ++ (Q ++ R)) (P' ++ (Q ++ R)) := fun t ht => by
  rcases List.mem_append.1 ht with h1 | h1
  · rcases h t h1 with h2 | h2
    · exact .inl (List.mem_append_left _ h2)
    · exact .inr h2
  · exact .inl (List.mem_append_right _ h1)
/-- a call on the first one. -/
theorem Tx.first {w0 W w' : World} {T : List Nat} {x y z : Nat} {A B C : MS} (K : Kp w0 W) (hT : ∀ t, t ∈ T → w0.heap.size ≤ t) (h : Tx w0 W T x y z A B C w') {F : FuncId} {args : Array Value} {E : Ending → Prop} {A' : MS}
    (hc : ∀ P, Ow w0 w' x P A → Kp w0 w' → Calls Tryz.prog F args w' fun e w'' => E e ∧ Nx w0 w' w'' x P A') : Calls Tryz.prog F args w' fun e w'' => E e ∧ Tx w0 W T x y z A' B C w'' := by
  have K' := h.below K hT
  obtain ⟨T', ⟨P, Q, R, rfl, h1, h2, h3, d1, d2, d3⟩, q2, q3⟩ := h
  refine (hc P h1 K').mono fun e w'' ⟨he, P', p1, p2, p3⟩ => ⟨he, ?_⟩
  obtain ⟨u1, u2⟩ := Nx.keep p2 p3 h2 d1.symm (b := x) (S := A')
  obtain ⟨v1, v2⟩ := Nx.keep p2 p3 h3 d2.symm (b := x) (S := A')
  refine ⟨P' ++ (Q ++ R), ⟨P', Q, R, rfl, p1, u1, v1, u2.symm, v2.symm, d3⟩, q2.then (p2.mono fun t ht => List.mem_append_left _ ht) q3, q3.trans (mem3 p3) q2.size⟩
theorem Tri.rot {w0 w : World} {T : List Nat} {x y z : Nat} {A B C : MS} (h : Tri w0 w T x y z A B C) : ∃ T', Tri w0 w T' y z x B C A ∧ ∀ t, t ∈ T ↔ t ∈ T' := by
  obtain ⟨P, Q, R, rfl, h1, h2, h3, d1, d2, d3⟩ := h
  refine ⟨Q ++ (R ++ P), ⟨Q, R, P, rfl, h2, h3, h1, d3, d1.symm, d2.symm⟩, fun t => ?_⟩
  simp only [List.mem_append]
  constructor
  · rintro (h | h | h)
    · exact .inr (.inr h)
    · exact .inl h
    · exact .inr (.inl h)
  · rintro (h | h | h)
    · exact .inr (.inl h)
    · exact .inr (.inr h)
    · exact .inl h
theorem Tx.turn {w0 W w' : World} {T : List Nat} {x y z : Nat} {A B C : MS} (h : Tx w0 W T x y z A B C w') : Tx w0 W T y z x B C A w' := by
  obtain ⟨T', h1, h2, h3⟩ := h
  obtain ⟨T2, q1, q2⟩ := h1.rot
  exact ⟨T2, q1, h2, fun t ht => h3 t ((q2 t).2 ht)⟩
theorem Tx.second {w0 W w' : World} {T : List Nat} {x y z : Nat} {A B C : MS} (K : Kp w0 W) (hT : ∀ t, t ∈ T → w0.heap.size ≤ t) (h : Tx w0 W T x y z A B C w') {F : FuncId} {args : Array Value} {E : Ending → Prop} {B' : MS}
    (hc : ∀ P, Ow w0 w' y P B → Kp w0 w' → Calls Tryz.prog F args w' fun e w'' => E e ∧ Nx w0 w' w'' y P B') : Calls Tryz.prog F args w' fun e w'' => E e ∧ Tx w0 W T x y z A B' C w'' :=
  (Tx.first K hT h.turn hc).mono fun e w'' ⟨he, h'⟩ => ⟨he, h'.turn.turn⟩
theorem Tx.third {w0 W w' : World} {T : List Nat} {x y z : Nat} {A B C : MS} (K : Kp w0 W) (hT : ∀ t, t ∈ T → w0.heap.size ≤ t) (h : Tx w0 W T x y z A B C w') {F : FuncId} {args : Array Value} {E : Ending → Prop} {C' : MS}
    (hc : ∀ P, Ow w0 w' z P C → Kp w0 w' → Calls Tryz.prog F args w' fun e w'' => E e ∧ Nx w0 w' w'' z P C') : Calls Tryz.prog F args w' fun e w'' => E e ∧ Tx w0 W T x y z A B C' w'' :=
  (Tx.first K hT h.turn.turn hc).mono fun e w'' ⟨he, h'⟩ => ⟨he, h'.turn⟩
theorem Tri.sp {w0 w w' : World} {T : List Nat} {x y z : Nat} {A B C : MS} (h : Tri w0 w T x y z A B C) {T' : List Nat} (k : Sp T' w w') (hd : Dj T T') : Tri w0 w' T x y z A B C := by
  obtain ⟨P, Q, R, rfl, h1, h2, h3, h4⟩ := h
  exact ⟨P, Q, R, rfl, h1.sp k (fun t ht => hd t (List.mem_append_left _ ht)), h2.sp k (fun t ht => hd t (List.mem_append_right _ (List.mem_append_left _ ht))), h3.sp k (fun t ht => hd t (List.mem_append_right _ (List.mem_append_right _ ht))), h4⟩
/-- a call on the first one, its blocks among all. -/
theorem Tri.call {w0 w : World} {T : List Nat} {x y z : Nat} {A B C : MS} (h : Tri w0 w T x y z A B C) {F : FuncId} {args : Array Value} {E : Ending → Prop} {A' : MS}
    (hc : ∀ P, (∀ t, t ∈ P → t ∈ T) → Ow w0 w x P A → Calls Tryz.prog F args w fun e w'' => E e ∧ Nx w0 w w'' x P A') : Calls Tryz.prog F args w fun e w'' => E e ∧ Tx w0 w T x y z A' B C w'' := by
  obtain ⟨P, Q, R, rfl, h1, h2, h3, d1, d2, d3⟩ := h
  refine (hc P (fun t ht => List.mem_append_left _ ht) h1).mono fun e w'' ⟨he, P', p1, p2, p3⟩ => ⟨he, ?_⟩
  obtain ⟨u1, u2⟩ := Nx.keep p2 p3 h2 d1.symm (b := x) (S := A')
  obtain ⟨v1, v2⟩ := Nx.keep p2 p3 h3 d2.symm (b := x) (S := A')
  exact ⟨P' ++ (Q ++ R), ⟨P', Q, R, rfl, p1, u1, v1, u2.symm, v2.symm, d3⟩, p2.mono (fun t ht => List.mem_append_left _ ht), mem3 p3⟩
theorem Tx.same {w0 W w' : World} {T T' : List Nat} {x y z : Nat} {A B C : MS} (h : Tx w0 W T x y z A B C w') (e : ∀ t, t ∈ T ↔ t ∈ T') : Tx w0 W T' x y z A B C w' := by
  obtain ⟨T2, q1, q2, q3⟩ := h
  exact ⟨T2, q1, q2.mono (fun t ht => (e t).1 ht), fun t ht => (q3 t ht).imp (e t).1 id⟩
theorem Tri.call2 {w0 w : World} {T : List Nat} {x y z : Nat} {A B C : MS} (h : Tri w0 w T x y z A B C) {F : FuncId} {args : Array Value} {E : Ending → Prop} {B' : MS}
    (hc : ∀ P, (∀ t, t ∈ P → t ∈ T) → Ow w0 w y P B → Calls Tryz.prog F args w fun e w'' => E e ∧ Nx w0 w w'' y P B') : Calls Tryz.prog F args w fun e w'' => E e ∧ Tx w0 w T x y z A B' C w'' := by
  obtain ⟨T', q1, q2⟩ := h.rot
  refine (q1.call (fun P hP o => hc P (fun t ht => (q2 t).2 (hP t ht)) o)).mono fun e w'' ⟨he, h'⟩ => ⟨he, ?_⟩
  exact (h'.same (fun t => (q2 t).symm)).turn.turn
/-- alike but for the counts. -/
structure Alk (S S' : MS) : Prop where
  now : S.now = S'.now
  las : S.las = S'.las
  row : S.row = S'.row
  dead : S.dead = S'.dead
theorem Alk.refl (S : MS) : Alk S S := ⟨rfl, rfl, rfl, rfl⟩
theorem Alk.rd {S S' : MS} (h : Alk S S') (k : Int) : Alk (rd S k) S' := by
  unfold Go.Proofs.YtinpkfdmellleaaGreat.rd
  split
  · exact ⟨h.now, h.las, h.row, h.dead⟩
  · exact h
theorem rc_in {S : MS} {i : Nat} (hd : S.dead = false) (hi : i < S.las.length) : rcE S (i : Int) = 0 := by
  unfold rcE
  rw [hd, if_neg (by simp), if_pos ⟨by omega, by omega⟩]
theorem rd_in {S : MS} {i : Nat} (hd : S.dead = false) (hi : i < S.las.length) : rdS S (i : Int) = S.now.getD i noS := by
  unfold rdS
  rw [if_pos (rc_in hd hi), Int.toNat_natCast]
theorem tk_none (f : Nat → (Nat × ByteArray) → Bool) (hf : ∀ k p, f k p = false) : ∀ (r : List (Nat × ByteArray)) (j : Nat), tk f j r = []
  | [], _ => rfl
  | p :: r, j => by simp only [tk, hf j p, Bool.false_eq_true, if_false]; exact tk_none f hf r (j + 1)
theorem tk_all (f : Nat → (Nat × ByteArray) → Bool) : ∀ (r : List (Nat × ByteArray)) (j : Nat), (∀ k p, k < j + r.length → f k p = true) → tk f j r = r
  | [], _, _ => rfl
  | p :: r, j, hf => by
    simp only [tk, hf j p (by simp), if_true]
    rw [tk_all f r (j + 1) (fun k q hk => hf k q (by simp; omega))]
theorem bit_none (k : Nat) : bit [] k = false := rfl
theorem bit_ones (k : Nat) (h : k < 128) : bit [18446744073709551615, 18446744073709551615] k = true := by
  have hall : ∀ r, r < 64 → 18446744073709551615 / 2 ^ r % 2 = 1 := by decide
  have h1 : k / 64 = 0 ∨ k / 64 = 1 := by omega
  have h2 := hall (k % 64) (Nat.mod_lt _ (by omega))
  unfold bit
  rcases h1 with h1 | h1 <;> rw [h1] <;> simp [h2]
theorem ke_two (w : World) (a c : Nat) (ha : a < 18446744073709551616) (hc : c < 18446744073709551616) (k : Nat) (hk : k = w.heap.size) : KeIn (w.alloc (.cells #[.int .u64 (a : Int), .int .u64 (c : Int)] 180)) (.slice (some ⟨k, 0, none⟩) 2 2) [a, c] :=
  ⟨⟨_, 2, rfl, by simp, by omega, fun _ => ⟨k, 0, rfl, fun i hi => by
    have : i = 0 ∨ i = 1 := by simp at hi; omega
    rw [World.cell?_alloc_at _ _ _ _ hk]
    rcases this with rfl | rfl <;> rfl⟩⟩, fun y hy => by
    simp at hy
    rcases hy with rfl | rfl
    · exact ha
    · exact hc⟩
theorem ke_nil (w : World) : KeIn w (.slice none 0 0) [] := ⟨⟨none, 0, rfl, by simp, by omega, fun h => absurd h (by simp)⟩, fun y hy => by cases hy⟩
theorem fl_facts {S : MS} (h : Right S) (hd : S.dead = false) : Right (fl S) ∧ (fl S).dead = false ∧ (fl S).row = [] ∧ (fl S).now = (fl S).las ∧ (fl S).las.length = S.las.length ∧ flE S = 0 := by
  have e : fl S = ⟨S.now, pl S.las S.row, [], S.dead, up S.c 2⟩ := by unfold fl; rw [hd]; rfl
  refine ⟨h.fl, by rw [e]; exact hd, by rw [e], by rw [e]; exact h.live hd, by rw [e]; exact pl_len _ _, by unfold flE; rw [hd]; rfl⟩
/-- sixteen texts in a block, the first k of them told. -/
structure Ar (w : World) (A k : Nat) (f : Nat → ByteArray) : Prop where
  c : ∀ j, j < k → w.cell? ⟨A, j, none⟩ = some (.string (f j))
  t : w.there A 0 16
theorem Ar.sp {w w' : World} {A k : Nat} {f : Nat → ByteArray} (h : Ar w A k f) {T : List Nat} (q : Sp T w w') (hA : A ∉ T) : Ar w' A k f := ⟨fun j hj => q.held (h.c j hj) hA, q.there h.t hA⟩
theorem Ar.set {w : World} {A k : Nat} {f : Nat → ByteArray} (h : Ar w A k f) (hk : k < 16) : Ar (w.setCell ⟨A, k, none⟩ (.string (f k))) A (k + 1) f := by
  refine ⟨fun j hj => ?_, fun j hj => ?_⟩
  · by_cases e : j = k
    · subst e
      obtain ⟨v, hv⟩ := Option.isSome_iff_exists.1 (h.t j hk).1
      rw [Nat.zero_add] at hv
      exact World.cell?_setCell_same _ _ _ hv
    · rw [cell_off _ _ _ _ _ e]; exact h.c j (by omega)
  · obtain ⟨h1, h2⟩ := h.t j hj
    refine ⟨?_, (World.frozen?_setCell _ _ _ _).trans h2⟩
    by_cases e : 0 + j = k
    · obtain ⟨v, hv⟩ := Option.isSome_iff_exists.1 h1
      rw [e] at hv ⊢
      rw [World.cell?_setCell_same _ _ _ hv]; rfl
    · rw [cell_off _ _ _ _ _ e]; exact h1
theorem Ar.at {w : World} {A k : Nat} {f : Nat → ByteArray} (h : Ar w A k f) (i : Nat) (hi : i < 16) : ∃ v, w.cell? ⟨A, i, none⟩ = some v ∧ w.frozen? ⟨A, i, none⟩ = false := by
  obtain ⟨h1, h2⟩ := h.t i hi
  rw [Nat.zero_add] at h1 h2
  obtain ⟨v, hv⟩ := Option.isSome_iff_exists.1 h1
  exact ⟨v, hv, h2⟩
theorem Nw.not {w : World} {T T' : List Nat} (h : Nw w T T') {A : Nat} (hA : A ∉ T) (hl : A < w.heap.size) : A ∉ T' := fun hm => by
  rcases h A hm with h1 | h1
  · exact hA h1
  · omega

end Go.Proofs.YtinpkfdmellleaaGreat
