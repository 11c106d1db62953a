/-
  Places (layer 9) and labels (layer 12): contracts. Conditions: that the lists lie in memory.
-/
import Derived.Test.YtonooelffokfkaaGreatDoorZBase
import Derived.Deep.OwnRows
import Derived.Deep.Quiet
import Derived.Deep.QuietTactic
import Derived.BigQuiet
import Derived.Maps.AppendAt
import Derived.Laws.AppendOwnNone
import Derived.Deep.RegionWith
import Derived.Deep.RegionHeld3
import Derived.Deep.DeepCutAuto
import Derived.Laws.ResultCell
import Derived.Lib.LazyBuf
namespace Go.Proofs.YtonooelffokfkaaGreatDoor.Plain
set_option linter.unusedVariables false

def gg (n s : Int) : Bool := decide (4 ≤ n ∧ n ≤ 32 ∧ 1 ≤ s ∧ s ≤ 64)
theorem gg_iff (n s : Int) : gg n s = true ↔ 4 ≤ n ∧ n ≤ 32 ∧ 1 ≤ s ∧ s ≤ 64 := by simp [gg]
def dI (n s : Int) : Int := if gg n s = true then n - 2 else 0
def inRL9 (l : List (Int × Int)) : Bool := l.all (fun p => decide (0 ≤ p.1 ∧ p.1 < p.2))
def rfE (n s : Int) (l : List (Int × Int)) : Int := if gg n s = true then (if inRL9 l = true then 0 else 3) else 4
theorem inR_one (x y : Int) : inRL9 [(x, y)] = true ↔ 0 ≤ x ∧ x < y := by simp [inRL9]
theorem inR_two (x y u v : Int) : inRL9 [(x, y), (u, v)] = true ↔ (0 ≤ x ∧ x < y) ∧ 0 ≤ u ∧ u < v := by simp [inRL9]

/-! ### blocks -/
theorem div_facts {b k : Int} (hb : 0 ≤ b) (hk : 0 < k) : 0 ≤ b / k ∧ b / k ≤ b ∧ 0 ≤ b % k ∧ b % k < k ∧ b / k * k + b % k = b := by
  refine ⟨Int.ediv_nonneg hb (by omega), Int.ediv_le_self _ hb, Int.emod_nonneg _ (by omega), Int.emod_lt_of_pos _ hk, ?_⟩
  have := Int.emod_add_mul_ediv b k
  rw [Int.mul_comm k] at this
  omega
theorem div_of {t c k : Int} (h1 : 0 ≤ c) (h2 : c < k) : (t * k + c) / k = t ∧ (t * k + c) % k = c := by
  have := (Int.ediv_emod_unique (a := t * k + c) (b := k) (r := c) (q := t) (by omega)).2 ⟨by rw [Int.mul_comm]; omega, h1, h2⟩
  exact this
theorem div_lt {b k s : Int} (hb : 0 ≤ b) (hk : 0 < k) (h : b < k * s) : b / k < s := Int.ediv_lt_of_lt_mul hk (by rw [Int.mul_comm]; exact h)
def blk (n s t c : Int) : Int × Int := if gg n s = true then (if (0 ≤ t ∧ t < s) ∧ 0 ≤ c ∧ c < n - 2 then (t * (n - 2) + c, 0) else (0, 3)) else (0, 4)
/-! ### members -/
def sM (n t : Int) : Int := n + 1 - t % n
def mM (n t c : Int) : Int := (sM n t + c) % n
def cM (n t m : Int) : Int := (2 * n - sM n t + m) % n
theorem rem_bd (t : Int) {n : Int} (h : 0 < n) : 0 ≤ t % n ∧ t % n < n := ⟨Int.emod_nonneg _ (by omega), Int.emod_lt_of_pos _ h⟩
theorem mM_bd (t c : Int) {n : Int} (h : 0 < n) : 0 ≤ mM n t c ∧ mM n t c < n := rem_bd _ h
theorem cM_bd (t c : Int) {n : Int} (h : 0 < n) : 0 ≤ cM n t c ∧ cM n t c < n := rem_bd _ h
theorem cm_inv (n t c : Int) (h1 : 0 ≤ c) (h2 : c < n) : cM n t (mM n t c) = c := by
  unfold cM mM
  rw [Int.add_emod_emod, show 2 * n - sM n t + (sM n t + c) = c + n * 2 by omega, Int.add_mul_emod_self_left]
  exact Int.emod_eq_of_lt h1 h2
theorem mc_inv (n t m : Int) (h1 : 0 ≤ m) (h2 : m < n) : mM n t (cM n t m) = m := by
  unfold cM mM
  rw [Int.add_emod_emod, show sM n t + (2 * n - sM n t + m) = m + n * 2 by omega, Int.add_mul_emod_self_left]
  exact Int.emod_eq_of_lt h1 h2
theorem mM_inj {n t c d : Int} (h1 : 0 ≤ c) (h2 : c < n) (h3 : 0 ≤ d) (h4 : d < n) (h : mM n t c = mM n t d) : c = d := by
  rw [← cm_inv n t c h1 h2, h, cm_inv n t d h3 h4]
def mem (n s t c : Int) : Int × Int := if gg n s = true then (if (0 ≤ t ∧ t < s) ∧ 0 ≤ c ∧ c < n then (mM n t c, 0) else (0, 3)) else (0, 4)
def col (n s t m : Int) : Int × Int := if gg n s = true then (if (0 ≤ t ∧ t < s) ∧ 0 ≤ m ∧ m < n then (cM n t m, 0) else (0, 3)) else (0, 4)
def sec (n s t : Int) : Int × Int := if gg n s = true then (if 0 ≤ t ∧ t < s then (100 + t, 0) else (0, 3)) else (0, 4)
/-- the members of a stripe's columns. -/
def rowL (n t : Int) : List Int := (List.range n.toNat).map fun c : Nat => mM n t c
def row (n s t : Int) : List Int × Int := if gg n s = true then (if 0 ≤ t ∧ t < s then (rowL n t, 0) else ([], 3)) else ([], 4)
theorem rowL_len (n t : Int) : (rowL n t).length = n.toNat := by simp [rowL]
theorem rowL_at (n t : Int) (c : Nat) (h : c < n.toNat) : (rowL n t).getD c 0 = mM n t c := by
  simp [rowL, List.getD_eq_getElem?_getD, h]
/-- what a row holds behind the first k members. -/
def rF (n t : Int) (k : Nat) (c : Nat) : Int := if mM n t c < (k : Int) then mM n t c else 0
theorem rF_step (n t : Int) (k c : Nat) (hk : (k : Int) < n) (hc : (c : Int) < n) : rF n t (k + 1) c = if c = (cM n t k).toNat then (k : Int) else rF n t k c := by
  have hb := cM_bd t k (n := n) (by omega)
  unfold rF
  by_cases e : c = (cM n t k).toNat
  · have e2 : (c : Int) = cM n t k := by omega
    rw [if_pos e, e2, mc_inv n t k (by omega) hk, if_pos (by omega)]
  · rw [if_neg e]
    have hne : mM n t c ≠ (k : Int) := fun h => e (by rw [← h, cm_inv n t c (by omega) hc]; omega)
    have hm := mM_bd t c (n := n) (by omega)
    by_cases h1 : mM n t c < (k : Int)
    · rw [if_pos h1, if_pos (by omega)]
    · rw [if_neg h1, if_neg (by omega)]
theorem rF_full (n t : Int) (c : Nat) (hn : 0 < n) : rF n t n.toNat c = mM n t c := by
  have hm := mM_bd t c hn
  unfold rF
  rw [if_pos (by omega)]
theorem rF_zero (n t : Int) (c : Nat) (hn : 0 < n) : rF n t 0 c = 0 := by
  have hm := mM_bd t c hn
  unfold rF
  rw [if_neg (by omega)]
/-! ### the next member, and the next -/
def nxt (n m : Int) : Int := if m = n - 1 then 0 else m + 1
theorem nxt_mod (n m : Int) (h1 : 0 ≤ m) (h2 : m < n) : nxt n m = (m + 1) % n := by
  unfold nxt
  by_cases e : m = n - 1
  · rw [if_pos e, e, show n - 1 + 1 = n by omega, Int.emod_self]
  · rw [if_neg e, Int.emod_eq_of_lt (by omega) (by omega)]
theorem nxt_bd (n m : Int) (h1 : 0 ≤ m) (h2 : m < n) : 0 ≤ nxt n m ∧ nxt n m < n := by
  unfold nxt; split <;> omega
/-- P's member, told downwards. -/
def pM (n t : Int) : Int := n - 1 - t % n
theorem pM_bd (t : Int) {n : Int} (h : 0 < n) : 0 ≤ pM n t ∧ pM n t < n := by have := rem_bd t h; unfold pM; omega
theorem pM_zero (n : Int) : pM n 0 = n - 1 := by simp [pM]
theorem pM_step (n t : Int) (hn : 0 < n) (ht : 0 ≤ t) : pM n (t + 1) = if pM n t - 1 < 0 then n - 1 else pM n t - 1 := by
  have hb := rem_bd t hn
  unfold pM
  have h1 : (t + 1) % n = (t % n + 1) % n := by rw [Int.emod_add_emod]
  by_cases e : t % n + 1 = n
  · rw [h1, e, Int.emod_self, if_pos (by omega)]; omega
  · rw [h1, Int.emod_eq_of_lt (by omega) (by omega), if_neg (by omega)]; omega
theorem mM_p (n t : Int) (hn : 0 < n) : mM n t (n - 2) = pM n t := by
  have hb := pM_bd t hn
  unfold mM sM
  have : n + 1 - t % n + (n - 2) = pM n t + n * 1 := by unfold pM; omega
  rw [this, Int.add_mul_emod_self_left, Int.emod_eq_of_lt hb.1 hb.2]
theorem mM_q (n t : Int) (hn : 0 < n) : mM n t (n - 1) = nxt n (pM n t) := by
  have hb := pM_bd t hn
  rw [nxt_mod n _ hb.1 hb.2]
  unfold mM sM
  have : n + 1 - t % n + (n - 1) = pM n t + 1 + n * 1 := by unfold pM; omega
  rw [this, Int.add_mul_emod_self_left]
theorem mM_data (n t c : Int) (hn : 0 < n) : mM n t c = (nxt n (pM n t) + 1 + c) % n := by
  have hb := pM_bd t hn
  rw [nxt_mod n _ hb.1 hb.2]
  unfold mM sM
  have : n + 1 - t % n + c = pM n t + 1 + (1 + c) := by unfold pM; omega
  rw [this, Int.add_assoc ((pM n t + 1) % n), Int.emod_add_emod]
theorem mM_first (n t : Int) (hn : 0 < n) : mM n t 0 = nxt n (nxt n (pM n t)) := by
  have hb := pM_bd t hn
  have hq := nxt_bd n _ hb.1 hb.2
  rw [mM_data n t 0 hn, nxt_mod n (nxt n (pM n t)) hq.1 hq.2, Int.add_zero]
theorem mM_next (n t c : Int) (hn : 0 < n) : mM n t (c + 1) = nxt n (mM n t c) := by
  have hm := mM_bd t c hn
  rw [nxt_mod n _ hm.1 hm.2]
  unfold mM
  rw [Int.emod_add_emod, ← Int.add_assoc]
/-- the row's members, one behind the other. -/
def rT (n t : Int) (k : Nat) : List Int := (List.range k).map fun c : Nat => mM n t c
theorem rT_succ (n t : Int) (k : Nat) : rT n t (k + 1) = rT n t k ++ [mM n t k] := by simp [rT, List.range_succ]
theorem rT_len (n t : Int) (k : Nat) : (rT n t k).length = k := by simp [rT]
theorem rT_full (n t : Int) (k : Nat) (hn : 4 ≤ n) (hk : (k : Int) = n - 2) : rT n t k ++ [pM n t] ++ [nxt n (pM n t)] = rowL n t := by
  have e1 : mM n t k = pM n t := by rw [hk]; exact mM_p n t (by omega)
  have e2 : mM n t ((k + 1 : Nat) : Int) = nxt n (pM n t) := by
    rw [show ((k + 1 : Nat) : Int) = n - 1 by omega]; exact mM_q n t (by omega)
  rw [← e1, ← rT_succ]
  show rT n t (k + 1) ++ [_] = rowL n t
  rw [e1, ← e2, ← rT_succ]
  unfold rT rowL
  rw [show k + 1 + 1 = n.toNat by omega]
/-! ### the stripes of some blocks -/
def tP (k f c : Int) (t : Nat) : Bool := decide (0 < c ∧ (t : Int) * k < f + c ∧ f < (t : Int) * k + k)
def tL (k f c : Int) (a : Nat) : List Int := ((List.range a).filter (tP k f c)).map (fun t : Nat => (t : Int))
theorem tL_no {k f c : Int} {a : Nat} (h : tP k f c a = false) : tL k f c (a + 1) = tL k f c a := by
  simp [tL, List.range_succ, h]
theorem tL_none {k f c : Int} : ∀ {a : Nat}, (∀ t, t < a → tP k f c t = false) → tL k f c a = []
  | 0, _ => rfl
  | a + 1, h => by rw [tL_no (h a (by omega)), tL_none (fun t ht => h t (by omega))]
theorem mul_mono {k : Int} (hk : 0 < k) {a b : Nat} (h : a ≤ b) : (a : Int) * k ≤ (b : Int) * k := Int.mul_le_mul_of_nonneg_right (by omega) (by omega)
/-- behind some rounds: the next stripe is T, the next block B. -/
structure TI (k f : Int) (T : Nat) (B : Int) : Prop where
  dv : B / k = T
  ge : f ≤ B
  is : B = f ∨ B = (T : Int) * k
theorem TI.start {k f : Int} (hk : 0 < k) (hf : 0 ≤ f) (c : Int) : TI k f (f / k).toNat f ∧ tL k f c (f / k).toNat = [] := by
  have hd := div_facts hf hk
  refine ⟨⟨by omega, by omega, .inl rfl⟩, tL_none fun t ht => ?_⟩
  have h1 : ((t + 1 : Nat) : Int) * k ≤ (((f / k).toNat : Nat) : Int) * k := mul_mono hk (by omega)
  rw [show (((f / k).toNat : Nat) : Int) = f / k by omega] at h1
  have h2 : ((t + 1 : Nat) : Int) * k = (t : Int) * k + k := by rw [Int.natCast_add, Int.add_mul]; simp
  unfold tP
  apply decide_eq_false
  rintro ⟨_, _, h⟩
  omega
theorem TI.facts {k f : Int} {T : Nat} {B : Int} (h : TI k f T B) (hk : 0 < k) (hf : 0 ≤ f) : 0 ≤ B ∧ (T : Int) * k + B % k = B ∧ 0 ≤ B % k ∧ B % k < k := by
  have hd := div_facts (b := B) (k := k) (by have := h.ge; omega) hk
  rw [h.dv] at hd
  exact ⟨by have := h.ge; omega, hd.2.2.2.2, hd.2.2.1, hd.2.2.2.1⟩
theorem TI.yes {k f c : Int} {T : Nat} {B : Int} (h : TI k f T B) (hk : 0 < k) (hf : 0 ≤ f) (hB : B < f + c) : tP k f c T = true ∧ TI k f (T + 1) (B + (k - B % k)) := by
  have hq := h.facts hk hf
  have hg := h.ge
  have h2 : ((T + 1 : Nat) : Int) * k = (T : Int) * k + k := by rw [Int.natCast_add, Int.add_mul]; simp
  refine ⟨decide_eq_true ⟨by omega, by omega, by omega⟩, ⟨?_, by omega, .inr (by omega)⟩⟩
  rw [show B + (k - B % k) = ((T + 1 : Nat) : Int) * k + 0 by omega]
  exact (div_of (by omega) hk).1
theorem TI.no {k f c : Int} {T : Nat} {B : Int} (h : TI k f T B) (hk : 0 < k) (hB : ¬ B < f + c) : ∀ t, T ≤ t → tP k f c t = false := fun t ht => by
  apply decide_eq_false
  rintro ⟨h1, h2, h3⟩
  have := mul_mono hk ht
  rcases h.is with e | e <;> omega
theorem TI.lt {k f s : Int} {T : Nat} {B : Int} (h : TI k f T B) (hk : 0 < k) (hf : 0 ≤ f) (hB : B < k * s) : (T : Int) < s := by
  have := div_lt (h.facts hk hf).1 hk hB
  rw [h.dv] at this
  exact this

end Go.Proofs.YtonooelffokfkaaGreatDoor.Plain

namespace Go.Proofs.YtonooelffokfkaaGreatDoor
open Go.RowKit Plain
set_option linter.unusedVariables false

structure SpAt (w : World) (a : Option Addr) (b off cap : Nat) (l : List (Int × Int)) : Prop where
  ha : 0 < l.length → a = some ⟨b, off, none⟩
  hn : a = none → cap = 0
  le : l.length ≤ cap
  mx : cap ≤ maxLen
  c0 : ∀ i, i < l.length → w.cell? ⟨b, off + i * 2, none⟩ = some (.int .i64 (l.getD i (0, 0)).1)
  c1 : ∀ i, i < l.length → w.cell? ⟨b, off + i * 2 + 1, none⟩ = some (.int .i64 (l.getD i (0, 0)).2)
def SpIn (w : World) (v : Value) (l : List (Int × Int)) : Prop := ∃ a b off cap, v = .slice a l.length cap ∧ SpAt w a b off cap l
theorem SpAt.kept {w w' : World} {a : Option Addr} {b off cap : Nat} {l : List (Int × Int)} (h : SpAt w a b off cap l) (k : Kp w w') : SpAt w' a b off cap l :=
  ⟨h.ha, h.hn, h.le, h.mx, fun i hi => k.held (h.c0 i hi), fun i hi => k.held (h.c1 i hi)⟩
theorem SpIn.kept {w w' : World} {v : Value} {l : List (Int × Int)} (h : SpIn w v l) (k : Kp w w') : SpIn w' v l := by
  obtain ⟨a, b, off, cap, rfl, h⟩ := h
  exact ⟨a, b, off, cap, rfl, h.kept k⟩
theorem SpIn.nil (w : World) : SpIn w (.slice none 0 0) [] := ⟨none, 0, 0, 0, rfl, ⟨fun h => absurd h (by simp), fun _ => rfl, by simp, by unfold maxLen; omega, fun i h => absurd h (by simp), fun i h => absurd h (by simp)⟩⟩
theorem SpAt.new1 (w : World) (x y : Int) (t : TypeId) : SpAt (w.alloc (.cells #[.int .i64 x, .int .i64 y] t)) (some ⟨w.heap.size, 0, none⟩) w.heap.size 0 1 [(x, y)] :=
  ⟨fun _ => rfl, fun h => (by cases h), by simp, by unfold maxLen; omega, fun i h => (by
    obtain rfl : i = 0 := by simp at h; omega
    rw [World.cell?_alloc_at _ _ _ _ rfl]; rfl), fun i h => (by
    obtain rfl : i = 0 := by simp at h; omega
    rw [World.cell?_alloc_at _ _ _ _ rfl]; rfl)⟩
theorem SpAt.new2 (w : World) (x y u v : Int) (t : TypeId) : SpAt (w.alloc (.cells #[.int .i64 x, .int .i64 y, .int .i64 u, .int .i64 v] t)) (some ⟨w.heap.size, 0, none⟩) w.heap.size 0 2 [(x, y), (u, v)] :=
  ⟨fun _ => rfl, fun h => (by cases h), by simp, by unfold maxLen; omega, fun i h => (by
    have h : i = 0 ∨ i = 1 := by simp at h; omega
    rcases h with rfl | rfl <;> (rw [World.cell?_alloc_at _ _ _ _ rfl]; rfl)), fun i h => (by
    have h : i = 0 ∨ i = 1 := by simp at h; omega
    rcases h with rfl | rfl <;> (rw [World.cell?_alloc_at _ _ _ _ rfl]; rfl))⟩
theorem Kp.drewN {a b : World} (h : Kp a b) (n : Nat) : Kp a (b.drewN n) := ⟨h.os, h.tape, h.output, h.size, h.block⟩

/-! ### rows of numbers -/
def ivL9 (l : List Int) : List Value := l.map (Value.int .i64)
def OwnI (w : World) (base : Nat) (v : Value) (l : List Int) : Prop := w.ownsRow base 3 1 v l.length (ivL9 l)
theorem OwnI.kept {w w' : World} {base : Nat} {v : Value} {l : List Int} (h : OwnI w base v l) (k : Kp w w') : OwnI w' base v l := k.own h
theorem OwnI.alloc {w : World} {base : Nat} {v : Value} {l : List Int} (h : OwnI w base v l) (o : Obj) : OwnI (w.alloc o) base v l := ((Kp.refl w).alloc o).own h
/-- one number appended. -/
theorem wpList_append_int {w : World} {ops : Array Oper} {rest : List Oper} {o : Oper} {a : Act} {Q : Exit → Act → World → Prop} (hgd : o.guard = none) (s x : Operand)
    (ho : o.op = .call { callee := .builtin .append, args := #[s, x], argTypes := #[22, 22] })
    (base : Nat) (v : Value) (l : List Int) (hs : a.eval s = v) (hown : OwnI w base v l) (p : Int) (k : Nat) (hx : a.eval x = .slice (some ⟨k, 0, none⟩) 1 1) (hc : w.cell? ⟨k, 0, none⟩ = some (.int .i64 p))
    (hlen : l.length + 1 ≤ 1099511627776) (hbase : base ≤ w.heap.size)
    (h : ∀ v' w', OwnI w' base v' (l ++ [p]) → w.grownBy w' v.ownBlock → wpList Tryz.prog ops Q rest (a.put o.dst v') w') : wpList Tryz.prog ops Q (o :: rest) a w := by
  obtain ⟨i0, hi, hz0, hz1, hz2⟩ := info_parts info_int
  refine wpList_append_own_at w hgd s x 22 ho base 3 i0 (.int .i64 0) 1 8 Tryz.underlying22 hi hz0 hz1 hz2 rfl (by decide) v l.length (ivL9 l) hs hown ⟨k, 0, none⟩ 1 1 [.int .i64 p] hx rfl ?_ (by simp [Value.oneCell']) (by unfold maxLen; omega) (by omega) hbase (fun v' w' h1 h2 _ _ => h v' w' ?_ h2)
  · intro j u hj
    match j, hj with
    | 0, hj => simp at hj; subst hj; simpa [Addr.add] using hc
  · unfold OwnI ivL9
    rw [List.length_append, List.map_append]
    exact h1
/-- a row of numbers, by a function. -/
def FI (w : World) (base : Nat) (v : Value) (n : Nat) (f : Nat → Int) : Prop := w.ownsRow base 3 1 v n ((List.range n).map fun i => Value.int .i64 (f i))
theorem FI.of {w : World} {base : Nat} {v : Value} {l : List Int} (h : OwnI w base v l) : FI w base v l.length (fun i => l.getD i 0) := by
  have e : ((List.range l.length).map fun i => Value.int .i64 (l.getD i 0)) = ivL9 l := by
    apply List.ext_getElem?
    intro i
    unfold ivL9
    rw [List.getElem?_map, List.getElem?_map]
    by_cases hi : i < l.length
    · rw [List.getElem?_range hi, List.getElem?_eq_getElem hi]
      simp [List.getD_eq_getElem?_getD, hi]
    · rw [List.getElem?_eq_none (by simpa using hi), List.getElem?_eq_none (by omega)]; rfl
  unfold FI
  rw [e]
  exact h
theorem FI.kept {w w' : World} {base : Nat} {v : Value} {n : Nat} {f : Nat → Int} (h : FI w base v n f) (k : Kp w w') : FI w' base v n f := k.own h
theorem FI.shape {w : World} {base : Nat} {v : Value} {n : Nat} {f : Nat → Int} (h : FI w base v n f) : ∃ a cap, v = .slice a n cap ∧ n ≤ cap ∧ cap ≤ 9223372036854775807 ∧ (0 < n → ∃ g, a = some ⟨g, 0, none⟩ ∧ base ≤ g) := by
  rcases h.2 with ⟨rfl, rfl⟩ | ⟨g, cap, cur, rfl, hb, hg, hn, hm, _⟩
  · exact ⟨none, 0, rfl, by omega, by omega, fun h => absurd h (by omega)⟩
  · unfold maxLen at hm
    exact ⟨_, cap, rfl, hn, by omega, fun _ => ⟨g, rfl, hb⟩⟩
theorem FI.at {w : World} {base g n cap : Nat} {f : Nat → Int} (h : FI w base (.slice (some ⟨g, 0, none⟩) n cap) n f) (j : Nat) (hj : j < n) : w.cell? ⟨g, j, none⟩ = some (.int .i64 (f j)) := by
  rw [World.ownsRow.cellAt h j (by omega)]
  simp [hj]
theorem FI.z {w : World} {base g n cap : Nat} {f : Nat → Int} (h : FI w base (.slice (some ⟨g, 0, none⟩) n cap) n f) (o : Nat) : w.frozen? ⟨g, o, none⟩ = false := World.ownsRow.frozenAt h o
theorem FI.set {w : World} {base g n cap : Nat} {f : Nat → Int} (h : FI w base (.slice (some ⟨g, 0, none⟩) n cap) n f) (j : Nat) (x : Int) : FI (w.setCell ⟨g, j, none⟩ (.int .i64 x)) base (.slice (some ⟨g, 0, none⟩) n cap) n (fun i => if i = j then x else f i) := by
  have h1 := (World.ownsRow.stored h j (.int .i64 x)).1
  have e : ((List.range n).map fun i => Value.int .i64 (if i = j then x else f i)) = ((List.range n).map fun i => Value.int .i64 (f i)).set j (.int .i64 x) := by
    apply List.ext_getElem?
    intro i
    rw [List.getElem?_set, List.getElem?_map, List.getElem?_map, List.length_map, List.length_range]
    by_cases hi : i < n
    · rw [List.getElem?_range hi]
      by_cases e : j = i
      · subst e; simp [hi]
      · have : ¬ i = j := fun h => e h.symm
        simp [e, this]
    · rw [List.getElem?_eq_none (by simpa using hi)]
      by_cases e : j = i
      · subst e; simp [hi]
      · simp [e]
  unfold FI
  rw [e]
  exact h1
theorem FI.congr {w : World} {base : Nat} {v : Value} {n : Nat} {f g : Nat → Int} (h : FI w base v n f) (e : ∀ j, f j = g j) : FI w base v n g := by
  rw [show g = f from funext fun j => (e j).symm]; exact h
theorem Kp.setB {a w : World} (h : Kp a w) {b o : Nat} (hb : a.heap.size ≤ b) (u : Value) : Kp a (w.setCell ⟨b, o, none⟩ u) := Below.setCell h (p := ⟨b, o, none⟩) hb u
/-- numbers in memory. -/
def InI (w : World) (v : Value) (l : List Int) : Prop := ∃ a g cap, v = .slice a l.length cap ∧ l.length ≤ cap ∧ cap ≤ 9223372036854775807 ∧ (0 < l.length → a = some ⟨g, 0, none⟩) ∧ ∀ j, j < l.length → w.cell? ⟨g, j, none⟩ = some (.int .i64 (l.getD j 0))
theorem OwnI.ints {w : World} {base : Nat} {v : Value} {l : List Int} (h : OwnI w base v l) : InI w v l := by
  have h1 := FI.of h
  obtain ⟨a, cap, rfl, hn, hc, hg⟩ := h1.shape
  by_cases h0 : 0 < l.length
  · obtain ⟨g, rfl, _⟩ := hg h0
    exact ⟨_, g, cap, rfl, hn, hc, fun _ => rfl, fun j hj => h1.at j hj⟩
  · exact ⟨a, 0, cap, rfl, hn, hc, fun h => absurd h h0, fun j hj => absurd hj (by omega)⟩
theorem InI.kept {w w' : World} {v : Value} {l : List Int} (h : InI w v l) (k : Kp w w') : InI w' v l := by
  obtain ⟨a, g, cap, rfl, h1, h2, h3, h4⟩ := h
  exact ⟨a, g, cap, rfl, h1, h2, h3, fun j hj => k.held (h4 j hj)⟩

end Go.Proofs.YtonooelffokfkaaGreatDoor

namespace Go.Proofs.YtonooelffokfkaaGreatDoor
open Go.RowKit Plain
set_option linter.unusedVariables false

def gV (n s : Int) : Value := .agg #[.int .i64 n, .int .i64 s]
set_option maxRecDepth 100000 in
theorem good_any (n s : Int) (w : World) : Calls Tryz.prog 76 #[gV n s] w fun e w' => e = .returned (.bool (gg n s)) ∧ Kp w w' := by
  unfold gV
  by_cases h1 : 4 ≤ n
  · by_cases h2 : n ≤ 32
    · by_cases h3 : 1 ≤ s
      · by_cases h4 : s ≤ 64
        · rw [show gg n s = true from (gg_iff _ _).2 ⟨h1, h2, h3, h4⟩]
          go_enter Tryz.func76, Tryz.ntmps76
          go_wp2
          go_ret
          exact ⟨rfl, (Kp.refl w).alloc _⟩
        · rw [show gg n s = false from by rw [Bool.eq_false_iff, ne_eq, gg_iff]; exact fun h => h4 h.2.2.2]
          go_enter Tryz.func76, Tryz.ntmps76
          go_wp2
          go_ret
          exact ⟨rfl, (Kp.refl w).alloc _⟩
      · rw [show gg n s = false from by rw [Bool.eq_false_iff, ne_eq, gg_iff]; exact fun h => h3 h.2.2.1]
        go_enter Tryz.func76, Tryz.ntmps76
        go_wp2
        go_ret
        exact ⟨rfl, (Kp.refl w).alloc _⟩
    · rw [show gg n s = false from by rw [Bool.eq_false_iff, ne_eq, gg_iff]; exact fun h => h2 h.2.1]
      go_enter Tryz.func76, Tryz.ntmps76
      go_wp2
      go_ret
      exact ⟨rfl, (Kp.refl w).alloc _⟩
  · rw [show gg n s = false from by rw [Bool.eq_false_iff, ne_eq, gg_iff]; exact fun h => h1 h.1]
    go_enter Tryz.func76, Tryz.ntmps76
    go_wp2
    go_ret
    exact ⟨rfl, (Kp.refl w).alloc _⟩
set_option maxRecDepth 100000 in
theorem rgood_any (n s : Int) (w : World) : Calls Tryz.prog 94 #[gV n s] w fun e w' => e = .returned (.bool (gg n s)) ∧ Kp w w' := by
  unfold gV
  by_cases h1 : 4 ≤ n
  · by_cases h2 : n ≤ 32
    · by_cases h3 : 1 ≤ s
      · by_cases h4 : s ≤ 64
        · rw [show gg n s = true from (gg_iff _ _).2 ⟨h1, h2, h3, h4⟩]
          go_enter Tryz.func94, Tryz.ntmps94
          go_wp2
          go_ret
          exact ⟨rfl, (Kp.refl w).alloc _⟩
        · rw [show gg n s = false from by rw [Bool.eq_false_iff, ne_eq, gg_iff]; exact fun h => h4 h.2.2.2]
          go_enter Tryz.func94, Tryz.ntmps94
          go_wp2
          go_ret
          exact ⟨rfl, (Kp.refl w).alloc _⟩
      · rw [show gg n s = false from by rw [Bool.eq_false_iff, ne_eq, gg_iff]; exact fun h => h3 h.2.2.1]
        go_enter Tryz.func94, Tryz.ntmps94
        go_wp2
        go_ret
        exact ⟨rfl, (Kp.refl w).alloc _⟩
    · rw [show gg n s = false from by rw [Bool.eq_false_iff, ne_eq, gg_iff]; exact fun h => h2 h.2.1]
      go_enter Tryz.func94, Tryz.ntmps94
      go_wp2
      go_ret
      exact ⟨rfl, (Kp.refl w).alloc _⟩
  · rw [show gg n s = false from by rw [Bool.eq_false_iff, ne_eq, gg_iff]; exact fun h => h1 h.1]
    go_enter Tryz.func94, Tryz.ntmps94
    go_wp2
    go_ret
    exact ⟨rfl, (Kp.refl w).alloc _⟩
set_option maxRecDepth 100000 in
theorem data_any (n s : Int) (w : World) : Calls Tryz.prog 37 #[gV n s] w fun e w' => e = .returned (.int .i64 (dI n s)) ∧ Kp w w' := by
  have hG := good_any n s
  cases e1 : gg n s with
  | true =>
    rw [show dI n s = n - 2 from if_pos e1]
    rw [e1] at hG
    obtain ⟨g1, g2, g3, g4⟩ := (gg_iff n s).1 e1
    clear e1
    unfold gV at hG ⊢
    go_enter Tryz.func37, Tryz.ntmps37
    go_wp2_with fail
    refine (hG _).mono ?_; rintro e w1 ⟨rfl, k1⟩
    have c0 : w1.cell? ⟨w.heap.size, 0, none⟩ = some (.int .i64 n) := k1.held (by simp)
    have c1 : w1.cell? ⟨w.heap.size, 1, none⟩ = some (.int .i64 s) := k1.held (by simp)
    have K : Kp w w1 := ((Kp.refl w).alloc _).trans k1
    clear hG k1
    go_wp2
    go_ret
    exact ⟨rfl, K⟩
  | false =>
    rw [show dI n s = 0 from if_neg (by simp [e1])]
    rw [e1] at hG
    clear e1
    unfold gV at hG ⊢
    go_enter Tryz.func37, Tryz.ntmps37
    go_wp2_with fail
    refine (hG _).mono ?_; rintro e w1 ⟨rfl, k1⟩
    have K : Kp w w1 := ((Kp.refl w).alloc _).trans k1
    clear hG k1
    go_wp2
    go_ret
    exact ⟨rfl, K⟩
set_option maxRecDepth 100000 in
theorem next_anyL9 (n s m : Int) (w : World) (h1 : 0 < n) (h2 : n ≤ 32) (h3 : 0 ≤ m) (h4 : m < n) : Calls Tryz.prog 95 #[gV n s, .int .i64 m] w fun e w' => e = .returned (.int .i64 (nxt n m)) ∧ Kp w w' := by
  unfold gV
  by_cases e : m = n - 1
  · rw [show nxt n m = 0 from if_pos e]
    have e2 : (m == n - 1) = true := beq_iff_eq.2 e
    clear e
    go_enter Tryz.func95, Tryz.ntmps95
    go_wp2
    go_ret
    exact ⟨rfl, (Kp.refl w).alloc _⟩
  · rw [show nxt n m = m + 1 from if_neg e]
    have e2 : (m == n - 1) = false := beq_eq_false_iff_ne.2 e
    clear e
    go_enter Tryz.func95, Tryz.ntmps95
    go_wp2
    go_ret
    exact ⟨rfl, (Kp.refl w).alloc _⟩
set_option maxRecDepth 100000 in
theorem start_any (n s t : Int) (w : World) (h1 : 0 < n) (h2 : n ≤ 32) (h3 : 0 ≤ t) : Calls Tryz.prog 78 #[gV n s, .int .i64 t] w fun e w' => e = .returned (.int .i64 (sM n t)) ∧ Kp w w' := by
  have hb := rem_bd t h1
  have hr : t.tmod n = t % n := Int.tmod_eq_emod_of_nonneg h3
  have e : sM n t = n - 1 - t % n + 2 := by unfold sM; omega
  rw [e]
  obtain ⟨r, er⟩ : ∃ r, r = t % n := ⟨_, rfl⟩
  rw [← er] at hb hr ⊢
  obtain ⟨b1, b2⟩ := hb
  have er2 := er.symm
  have hn0 : (n == 0) = false := beq_eq_false_iff_ne.2 (by omega)
  clear er e
  unfold gV
  go_enter Tryz.func78, Tryz.ntmps78
  go_wp2_with fail
  go_quiet (fail)
  go_wp2
  go_ret
  exact ⟨rfl, ((Kp.refl w).alloc _).drewN _⟩

end Go.Proofs.YtonooelffokfkaaGreatDoor

namespace Go.Proofs.YtonooelffokfkaaGreatDoor
open Go.RowKit Plain
set_option linter.unusedVariables false

set_option maxRecDepth 100000 in
theorem colOn_any (n s t m : Int) (w : World) (h1 : 0 < n) (h2 : n ≤ 32) (h3 : 0 ≤ t) (h4 : 0 ≤ m) (h5 : m < n) : Calls Tryz.prog 133 #[gV n s, .int .i64 t, .int .i64 m] w fun e w' => e = .returned (.int .i64 (cM n t m)) ∧ Kp w w' := by
  have hS := fun w' => start_any n s t w' h1 h2 h3
  have hb := rem_bd t h1
  have e : 2 * n - sM n t + m = n - 1 + t % n + m := by unfold sM; omega
  have hs : sM n t ≤ 33 ∧ 2 ≤ sM n t ∧ sM n t ≤ n + 1 := by unfold sM; omega
  have hr : (2 * n - sM n t + m).tmod n = cM n t m := Int.tmod_eq_emod_of_nonneg (by omega)
  have hr2 : (2 * n - sM n t + m) % n = cM n t m := rfl
  obtain ⟨r, er⟩ : ∃ r, r = cM n t m := ⟨_, rfl⟩
  obtain ⟨a, ea⟩ : ∃ a, a = sM n t := ⟨_, rfl⟩
  rw [← er] at hr hr2 ⊢
  rw [← ea] at hS hs hr hr2
  obtain ⟨s1, s2, s3⟩ := hs
  have hn0 : (n == 0) = false := beq_eq_false_iff_ne.2 (by omega)
  clear er ea e hb
  unfold gV at hS ⊢
  have c0 : (w.alloc (.cells #[.int .i64 n, .int .i64 s] 27)).cell? ⟨w.heap.size, 0, none⟩ = some (.int .i64 n) := by simp
  have c1 : (w.alloc (.cells #[.int .i64 n, .int .i64 s] 27)).cell? ⟨w.heap.size, 1, none⟩ = some (.int .i64 s) := by simp
  obtain ⟨w0, hw0⟩ : ∃ w0, w0 = w.alloc (.cells #[.int .i64 n, .int .i64 s] 27) := ⟨_, rfl⟩
  have K0 : Kp w w0 := by rw [hw0]; exact (Kp.refl w).alloc _
  have HW : Hid (w0 = w.alloc (.cells #[.int .i64 n, .int .i64 s] 27)) := hw0
  rw [← hw0] at c0 c1
  have q0 := kpw_cell c0
  have q1 := kpw_cell c1
  clear hw0 c0 c1
  go_enter Tryz.func133, Tryz.ntmps133
  go_wp2_with fail
  rw [← HW.out]
  clear HW
  refine wp_region_kp (by kernel_rfl) (by kernel_rfl) ?_
  repeat (first
    | go_big_quiet_skip
    | (go_big_quiet_want; go_big_quiet_op; go_big_quiet_on)
    | (go_big_quiet_want; go_big_quiet_op; apply Exists.intro; refine ⟨fun p => ?_, ?_⟩; (focus
        first
        | (go_at_call 78; exact kp_call (hS _))); go_big_quiet_on))
  refine wpQuiet_nil ?_
  rintro w1 ⟨p, rfl⟩
  go_wp2
  go_ret
  exact ⟨rfl, K0.trans (kpw_kp w0 p)⟩
theorem inR_step (l : List (Int × Int)) (k : Nat) (h : k < l.length) (hk : inRL9 (l.take k) = true) : inRL9 (l.take (k + 1)) = decide (0 ≤ (l.getD k (0, 0)).1 ∧ (l.getD k (0, 0)).1 < (l.getD k (0, 0)).2) := by
  unfold inRL9 at hk ⊢
  rw [List.take_add_one, List.getElem?_eq_getElem h, List.getD_eq_getElem?_getD, List.getElem?_eq_getElem h, List.all_append, hk]
  simp
theorem inR_not (l : List (Int × Int)) (k : Nat) (h : inRL9 (l.take k) = false) : inRL9 l = false := by
  rw [Bool.eq_false_iff, ne_eq] at h ⊢
  intro hh
  apply h
  unfold inRL9 at hh ⊢
  rw [List.all_eq_true] at hh ⊢
  exact fun p hp => hh p (List.mem_of_mem_take hp)
set_option maxRecDepth 100000 in
set_option maxHeartbeats 1000000 in
theorem refuse_at (n s : Int) (a : Option Addr) (b off cap : Nat) (l : List (Int × Int)) (w : World) (h : SpAt w a b off cap l) : Calls Tryz.prog 77 #[gV n s, .slice a l.length cap] w fun e w' => e = .returned (.int .i64 (rfE n s l)) ∧ Kp w w' := by
  have hG := good_any n s
  cases e1 : gg n s with
  | false =>
    rw [show rfE n s l = 4 from if_neg (by simp [e1])]
    rw [e1] at hG
    clear e1
    unfold gV at hG ⊢
    go_enter Tryz.func77, Tryz.ntmps77
    go_wp2_with fail
    refine (hG _).mono ?_; rintro e w1 ⟨rfl, k1⟩
    have K1 : Kp w w1 := ((Kp.refl w).alloc _).trans k1
    clear hG k1
    go_wp2
    go_ret
    exact ⟨rfl, K1⟩
  | true =>
    rw [show rfE n s l = (if inRL9 l = true then 0 else 3) from if_pos e1]
    rw [e1] at hG
    clear e1
    unfold gV at hG ⊢
    obtain ⟨N, hN⟩ : ∃ N, N = l.length := ⟨_, rfl⟩
    have hm : N ≤ 9223372036854775807 := by have := h.le; have := h.mx; unfold maxLen at *; omega
    have HN : Hid (N = l.length) := hN
    have HA : Hid (SpAt w a b off cap l) := h
    have ha := h.ha
    rw [← hN] at ha ⊢
    clear h hN
    obtain ⟨R, hR⟩ : ∃ R : Int, R = (if inRL9 l = true then 0 else 3) := ⟨_, rfl⟩
    rw [← hR]
    have HR : Hid (R = (if inRL9 l = true then 0 else 3)) := hR
    clear hR
    go_enter Tryz.func77, Tryz.ntmps77
    go_wp2_with fail
    refine (hG _).mono ?_; rintro e w1 ⟨rfl, k1⟩
    have K1 : Kp w w1 := ((Kp.refl w).alloc _).trans k1
    clear hG k1
    go_wp2
    go_loopw [12] (fun i wr => ∃ k : Nat, k ≤ N ∧ i = .int .i64 k ∧ Hid (inRL9 (l.take k) = true) ∧ Kp w wr) (fun i _ => N - (intOf i).toNat)
    case atStart => exact ⟨0, by omega, rfl, by show inRL9 [] = true; rfl, K1⟩
    case round =>
      clear K1
      obtain ⟨k, hk, rfl, HG, hK⟩ := hrel
      by_cases hlt : k < N
      · obtain rfl := ha (by omega)
        have hlt2 : k < l.length := by rw [← HN.out]; exact hlt
        have c0 := hK.held (HA.out.c0 k hlt2)
        have c1 := hK.held (HA.out.c1 k hlt2)
        have HS : Hid (inRL9 (l.take (k + 1)) = decide (0 ≤ (l.getD k (0, 0)).1 ∧ (l.getD k (0, 0)).1 < (l.getD k (0, 0)).2)) := inR_step l k hlt2 HG.out
        obtain ⟨p, hp⟩ : ∃ p, p = l.getD k (0, 0) := ⟨_, rfl⟩
        rw [← hp] at c0 c1 HS
        clear hp HG hlt2
        obtain ⟨x, y⟩ := p
        simp only at c0 c1
        by_cases h1 : 0 ≤ x
        · by_cases h2 : x < y
          · have HS2 : Hid (inRL9 (l.take (k + 1)) = true) := by rw [HS.out]; exact decide_eq_true ⟨h1, h2⟩
            clear HS
            go_wp2
            go_roundw
            case rel => exact ⟨k + 1, by omega, by go_num, HS2, hK.alloc _⟩
            case measure => simp [intOf]; omega
          · have HF : Hid (R = 3) := by
              have hf : inRL9 l = false := inR_not l (k + 1) (by rw [HS.out]; exact decide_eq_false (fun h => h2 h.2))
              rw [HR.out, hf]; rfl
            clear HS HR
            go_wp2
            go_ret
            exact ⟨by rw [HF.out]; rfl, hK.alloc _⟩
        · have HF : Hid (R = 3) := by
            have hf : inRL9 l = false := inR_not l (k + 1) (by rw [HS.out]; exact decide_eq_false (fun h => h1 h.1))
            rw [HR.out, hf]; rfl
          clear HS HR
          go_wp2
          go_ret
          exact ⟨by rw [HF.out]; rfl, hK.alloc _⟩
      · obtain rfl : k = N := by omega
        have HF : Hid (R = 0) := by
          have hf : inRL9 l = true := by have := HG.out; rwa [HN.out, List.take_length] at this
          rw [HR.out, hf]; rfl
        clear HG HR
        go_wp2
        go_ret
        exact ⟨by rw [HF.out]; rfl, hK⟩

end Go.Proofs.YtonooelffokfkaaGreatDoor

namespace Go.Proofs.YtonooelffokfkaaGreatDoor
open Go.RowKit Plain
set_option linter.unusedVariables false

theorem refuse1 (n s x y : Int) (w : World) (t : TypeId) : Calls Tryz.prog 77 #[.agg #[.int .i64 n, .int .i64 s], .slice (some ⟨w.heap.size, 0, none⟩) 1 1] (w.alloc (.cells #[.int .i64 x, .int .i64 y] t)) fun e w' => e = .returned (.int .i64 (rfE n s [(x, y)])) ∧ Kp w w' :=
  (refuse_at n s _ _ 0 1 [(x, y)] _ (SpAt.new1 w x y t)).mono fun _ _ ⟨h, k⟩ => ⟨h, ((Kp.refl w).alloc _).trans k⟩
theorem refuse2 (n s x y u v : Int) (w : World) (t : TypeId) : Calls Tryz.prog 77 #[.agg #[.int .i64 n, .int .i64 s], .slice (some ⟨w.heap.size, 0, none⟩) 2 2] (w.alloc (.cells #[.int .i64 x, .int .i64 y, .int .i64 u, .int .i64 v] t)) fun e w' => e = .returned (.int .i64 (rfE n s [(x, y), (u, v)])) ∧ Kp w w' :=
  (refuse_at n s _ _ 0 2 [(x, y), (u, v)] _ (SpAt.new2 w x y u v t)).mono fun _ _ ⟨h, k⟩ => ⟨h, ((Kp.refl w).alloc _).trans k⟩
theorem refuse1b (n s x y : Int) (w : World) (t : TypeId) (k : Nat) (hk : k = w.heap.size) : Calls Tryz.prog 77 #[.agg #[.int .i64 n, .int .i64 s], .slice (some ⟨k, 0, none⟩) 1 1] (w.alloc (.cells #[.int .i64 x, .int .i64 y] t)) fun e w' => e = .returned (.int .i64 (rfE n s [(x, y)])) ∧ Kp w w' := by
  rw [hk]; exact refuse1 n s x y w t
theorem refuse2b (n s x y u v : Int) (w : World) (t : TypeId) (k : Nat) (hk : k = w.heap.size) : Calls Tryz.prog 77 #[.agg #[.int .i64 n, .int .i64 s], .slice (some ⟨k, 0, none⟩) 2 2] (w.alloc (.cells #[.int .i64 x, .int .i64 y, .int .i64 u, .int .i64 v] t)) fun e w' => e = .returned (.int .i64 (rfE n s [(x, y), (u, v)])) ∧ Kp w w' := by
  rw [hk]; exact refuse2 n s x y u v w t
def pT (p : Int × Int) : Value := .tuple #[.int .i64 p.1, .int .i64 p.2]
theorem rf_not {n s : Int} {l : List (Int × Int)} (h : gg n s = false) : rfE n s l = 4 := if_neg (by simp [h])
theorem rf_out {n s : Int} {l : List (Int × Int)} (h : gg n s = true) (hl : ¬ inRL9 l = true) : rfE n s l = 3 := (if_pos h).trans (if_neg hl)
theorem rf_in {n s : Int} {l : List (Int × Int)} (h : gg n s = true) (hl : inRL9 l = true) : rfE n s l = 0 := (if_pos h).trans (if_pos hl)
set_option maxRecDepth 100000 in
set_option maxHeartbeats 2000000 in
theorem sector_anyL9 (n s t : Int) (w : World) : Calls Tryz.prog 121 #[gV n s, .int .i64 t] w fun e w' => e = .returned (pT (sec n s t)) ∧ Kp w w' := by
  obtain ⟨X, eX⟩ : ∃ X, X = sec n s t := ⟨_, rfl⟩
  rw [← eX]
  have HX : Hid (X = sec n s t) := eX
  clear eX
  unfold gV
  obtain ⟨R, eR⟩ : ∃ R, R = rfE n s [(t, s)] := ⟨_, rfl⟩
  have ER : Hid (R = rfE n s [(t, s)]) := eR
  clear eR
  go_enter Tryz.func121, Tryz.ntmps121
  go_wp2_with fail
  refine (refuse1b n s t s (w.alloc _) _ (w.heap.size + 1) (by simp)).mono ?_; rintro e w1 ⟨rfl, k1⟩
  rw [← ER.out]
  have c0 : w1.cell? ⟨w.heap.size, 0, none⟩ = some (.int .i64 n) := k1.held (by simp)
  have c1 : w1.cell? ⟨w.heap.size, 1, none⟩ = some (.int .i64 s) := k1.held (by simp)
  have KH : Hid (Kp w w1) := ((Kp.refl w).alloc _).trans k1
  clear k1
  cases e1 : gg n s with
  | false =>
    have HF : Hid (X = (0, 4)) := HX.out.trans (if_neg (by simp [e1]))
    have hR : R = 4 := ER.out.trans (rf_not e1)
    subst hR
    clear e1 ER HX
    go_wp2
    go_ret2
    exact ⟨by rw [HF.out]; rfl, KH.out⟩
  | true =>
    obtain ⟨g1, g2, g3, g4⟩ := (gg_iff n s).1 e1
    by_cases hb : 0 ≤ t ∧ t < s
    · have HF : Hid (X = (100 + t, 0)) := HX.out.trans ((if_pos e1).trans (if_pos hb))
      have hR : R = 0 := ER.out.trans (rf_in e1 ((inR_one _ _).2 hb))
      subst hR
      clear HX ER
      obtain ⟨hb1, hb2⟩ := hb
      clear e1
      go_wp2
      go_ret2
      exact ⟨by rw [HF.out]; rfl, KH.out⟩
    · have HF : Hid (X = (0, 3)) := HX.out.trans ((if_pos e1).trans (if_neg hb))
      have hR : R = 3 := ER.out.trans (rf_out e1 (by rw [(inR_one _ _)]; exact hb))
      subst hR
      clear e1 ER HX hb
      go_wp2
      go_ret2
      exact ⟨by rw [HF.out]; rfl, KH.out⟩
set_option maxRecDepth 100000 in
set_option maxHeartbeats 2000000 in
theorem column_any (n s t m : Int) (w : World) : Calls Tryz.prog 86 #[gV n s, .int .i64 t, .int .i64 m] w fun e w' => e = .returned (pT (col n s t m)) ∧ Kp w w' := by
  obtain ⟨X, eX⟩ : ∃ X, X = col n s t m := ⟨_, rfl⟩
  rw [← eX]
  have HX : Hid (X = col n s t m) := eX
  clear eX
  unfold gV
  obtain ⟨R, eR⟩ : ∃ R, R = rfE n s [(t, s), (m, n)] := ⟨_, rfl⟩
  have ER : Hid (R = rfE n s [(t, s), (m, n)]) := eR
  clear eR
  go_enter Tryz.func86, Tryz.ntmps86
  go_wp2_with fail
  refine (refuse2b n s t s m n (w.alloc _) _ (w.heap.size + 1) (by simp)).mono ?_; rintro e w1 ⟨rfl, k1⟩
  rw [← ER.out]
  have c0 : w1.cell? ⟨w.heap.size, 0, none⟩ = some (.int .i64 n) := k1.held (by simp)
  have c1 : w1.cell? ⟨w.heap.size, 1, none⟩ = some (.int .i64 s) := k1.held (by simp)
  have KH : Hid (Kp w w1) := ((Kp.refl w).alloc _).trans k1
  clear k1
  cases e1 : gg n s with
  | false =>
    have HF : Hid (X = (0, 4)) := HX.out.trans (if_neg (by simp [e1]))
    have hR : R = 4 := ER.out.trans (rf_not e1)
    subst hR
    clear e1 ER HX
    go_wp2
    go_ret2
    exact ⟨by rw [HF.out]; rfl, KH.out⟩
  | true =>
    obtain ⟨g1, g2, g3, g4⟩ := (gg_iff n s).1 e1
    by_cases hb : (0 ≤ t ∧ t < s) ∧ 0 ≤ m ∧ m < n
    · have HF : Hid (X = (cM n t m, 0)) := HX.out.trans ((if_pos e1).trans (if_pos hb))
      have hR : R = 0 := ER.out.trans (rf_in e1 ((inR_two _ _ _ _).2 hb))
      subst hR
      clear HX ER
      obtain ⟨⟨t1, t2⟩, m1, m2⟩ := hb
      have hC := colOn_any n s t m w1 (by omega) g2 t1 m1 m2
      unfold gV at hC
      obtain ⟨r, er⟩ : ∃ r, r = cM n t m := ⟨_, rfl⟩
      rw [← er] at hC HF
      clear e1 er
      go_wp2_with fail
      refine hC.mono ?_; rintro e w2 ⟨rfl, k2⟩
      have K2 := KH.out.trans k2
      clear hC k2 KH c0 c1
      go_wp2
      go_ret2
      exact ⟨by rw [HF.out]; rfl, K2⟩
    · have HF : Hid (X = (0, 3)) := HX.out.trans ((if_pos e1).trans (if_neg hb))
      have hR : R = 3 := ER.out.trans (rf_out e1 (by rw [(inR_two _ _ _ _)]; exact hb))
      subst hR
      clear e1 ER HX hb
      go_wp2
      go_ret2
      exact ⟨by rw [HF.out]; rfl, KH.out⟩
set_option maxRecDepth 100000 in
set_option maxHeartbeats 2000000 in
theorem member_anyL9 (n s t c : Int) (w : World) : Calls Tryz.prog 38 #[gV n s, .int .i64 t, .int .i64 c] w fun e w' => e = .returned (pT (mem n s t c)) ∧ Kp w w' := by
  obtain ⟨X, eX⟩ : ∃ X, X = mem n s t c := ⟨_, rfl⟩
  rw [← eX]
  have HX : Hid (X = mem n s t c) := eX
  clear eX
  unfold gV
  obtain ⟨R, eR⟩ : ∃ R, R = rfE n s [(t, s), (c, n)] := ⟨_, rfl⟩
  have ER : Hid (R = rfE n s [(t, s), (c, n)]) := eR
  clear eR
  go_enter Tryz.func38, Tryz.ntmps38
  go_wp2_with fail
  refine (refuse2b n s t s c n (w.alloc _) _ (w.heap.size + 1) (by simp)).mono ?_; rintro e w1 ⟨rfl, k1⟩
  rw [← ER.out]
  have c0 : w1.cell? ⟨w.heap.size, 0, none⟩ = some (.int .i64 n) := k1.held (by simp)
  have c1 : w1.cell? ⟨w.heap.size, 1, none⟩ = some (.int .i64 s) := k1.held (by simp)
  have KH : Hid (Kp w w1) := ((Kp.refl w).alloc _).trans k1
  clear k1
  cases e1 : gg n s with
  | false =>
    have HF : Hid (X = (0, 4)) := HX.out.trans (if_neg (by simp [e1]))
    have hR : R = 4 := ER.out.trans (rf_not e1)
    subst hR
    clear e1 ER HX
    go_wp2
    go_ret2
    exact ⟨by rw [HF.out]; rfl, KH.out⟩
  | true =>
    obtain ⟨g1, g2, g3, g4⟩ := (gg_iff n s).1 e1
    by_cases hb : (0 ≤ t ∧ t < s) ∧ 0 ≤ c ∧ c < n
    · have HF : Hid (X = (mM n t c, 0)) := HX.out.trans ((if_pos e1).trans (if_pos hb))
      have hR : R = 0 := ER.out.trans (rf_in e1 ((inR_two _ _ _ _).2 hb))
      subst hR
      clear HX ER
      obtain ⟨⟨t1, t2⟩, m1, m2⟩ := hb
      have hS := fun w' => start_any n s t w' (by omega) g2 t1
      unfold gV at hS
      have hb := rem_bd t (n := n) (by omega)
      have hs : sM n t ≤ 33 ∧ 2 ≤ sM n t := by unfold sM; omega
      have hr : (sM n t + c).tmod n = mM n t c := Int.tmod_eq_emod_of_nonneg (by omega)
      have hr2 : (sM n t + c) % n = mM n t c := rfl
      obtain ⟨r, er⟩ : ∃ r, r = mM n t c := ⟨_, rfl⟩
      obtain ⟨a, ea⟩ : ∃ a, a = sM n t := ⟨_, rfl⟩
      rw [← er] at hr hr2 HF
      rw [← ea] at hS hs hr hr2
      obtain ⟨s1, s2⟩ := hs
      have hn0 : (n == 0) = false := beq_eq_false_iff_ne.2 (by omega)
      have q0 := kpw_cell c0
      have q1 := kpw_cell c1
      clear e1 er ea hb c0 c1
      go_wp2_with fail
      refine wp_region_kp (by kernel_rfl) (by kernel_rfl) ?_
      repeat (first
        | go_big_quiet_skip
        | (go_big_quiet_want; go_big_quiet_op; go_big_quiet_on)
        | (go_big_quiet_want; go_big_quiet_op; apply Exists.intro; refine ⟨fun p => ?_, ?_⟩; (focus
            first
            | (go_at_call 78; exact kp_call (hS _))); go_big_quiet_on))
      refine wpQuiet_nil ?_
      rintro w2 ⟨p, rfl⟩
      go_wp2
      go_ret2
      exact ⟨by rw [HF.out]; rfl, KH.out.trans (kpw_kp w1 p)⟩
    · have HF : Hid (X = (0, 3)) := HX.out.trans ((if_pos e1).trans (if_neg hb))
      have hR : R = 3 := ER.out.trans (rf_out e1 (by rw [(inR_two _ _ _ _)]; exact hb))
      subst hR
      clear e1 ER HX hb
      go_wp2
      go_ret2
      exact ⟨by rw [HF.out]; rfl, KH.out⟩
end Go.Proofs.YtonooelffokfkaaGreatDoor

namespace Go.Proofs.YtonooelffokfkaaGreatDoor
open Go.RowKit Plain
set_option linter.unusedVariables false

theorem FI.congr2 {w : World} {base : Nat} {v : Value} {n : Nat} {f g : Nat → Int} (h : FI w base v n f) (e : ∀ j, j < n → f j = g j) : FI w base v n g := by
  have : ((List.range n).map fun i => Value.int .i64 (g i)) = (List.range n).map fun i => Value.int .i64 (f i) := List.map_congr_left fun i hi => by rw [e i (by simpa using hi)]
  unfold FI
  rw [this]
  exact h
theorem FI.made (w : World) (n : Nat) (hn : n ≤ 1000) : FI (w.alloc (.cells (madeCells #[.int .i64 0] n) 3)) w.heap.size (.slice (some ⟨w.heap.size, 0, none⟩) n n) n (fun _ => 0) := by
  refine ⟨by simp, .inr ⟨w.heap.size, n, _, rfl, Nat.le_refl _, heap_alloc_new w _, Nat.le_refl _, by unfold maxLen; omega, by rw [size_madeCells]; simp, ?_⟩⟩
  apply List.ext_getElem?
  intro i
  by_cases hi : i < n
  · simp [madeCells, hi, Nat.mod_one]
  · simp [madeCells, hi, Nat.mod_one]
theorem FI.ints {w : World} {base : Nat} {v : Value} {n : Nat} {f : Nat → Int} (h : FI w base v n f) : InI w v ((List.range n).map f) := by
  obtain ⟨a, cap, rfl, h1, h2, h3⟩ := h.shape
  by_cases h0 : 0 < n
  · obtain ⟨g, rfl, _⟩ := h3 h0
    exact ⟨_, g, cap, by simp, by simpa using h1, h2, fun _ => rfl, fun j hj => by
      have hj2 : j < n := by simpa using hj
      rw [h.at j hj2]; simp [List.getD_eq_getElem?_getD, hj2]⟩
  · obtain rfl : n = 0 := by omega
    exact ⟨a, 0, cap, rfl, by simp, h2, fun h => absurd h (by simp), fun j hj => absurd hj (by simp)⟩
theorem InI.nil (w : World) : InI w (.slice none 0 0) [] := ⟨none, 0, 0, rfl, by simp, by omega, fun h => absurd h (by simp), fun j hj => absurd hj (by simp)⟩
set_option maxRecDepth 100000 in
set_option maxHeartbeats 2000000 in
theorem row_any (n s t : Int) (w : World) : Calls Tryz.prog 81 #[gV n s, .int .i64 t] w fun e w' => ∃ v, e = .returned (.tuple #[v, .int .i64 (row n s t).2]) ∧ InI w' v (row n s t).1 ∧ Kp w w' := by
  obtain ⟨X, eX⟩ : ∃ X, X = row n s t := ⟨_, rfl⟩
  rw [← eX]
  have HX : Hid (X = row n s t) := eX
  clear eX
  unfold gV
  obtain ⟨R, eR⟩ : ∃ R, R = rfE n s [(t, s)] := ⟨_, rfl⟩
  have ER : Hid (R = rfE n s [(t, s)]) := eR
  clear eR
  go_enter Tryz.func81, Tryz.ntmps81
  go_wp2_with fail
  refine (refuse1b n s t s (w.alloc _) _ (w.heap.size + 1) (by simp)).mono ?_; rintro e w1 ⟨rfl, k1⟩
  rw [← ER.out]
  have c0 : w1.cell? ⟨w.heap.size, 0, none⟩ = some (.int .i64 n) := k1.held (by simp)
  have c1 : w1.cell? ⟨w.heap.size, 1, none⟩ = some (.int .i64 s) := k1.held (by simp)
  have KH : Hid (Kp w w1) := ((Kp.refl w).alloc _).trans k1
  clear k1
  cases e1 : gg n s with
  | false =>
    have HF : Hid (X = ([], 4)) := HX.out.trans (if_neg (by simp [e1]))
    have hR : R = 4 := ER.out.trans (rf_not e1)
    subst hR
    clear e1 ER HX
    go_wp2
    go_ret2
    exact ⟨.slice none 0 0, by rw [HF.out]; rfl, by rw [HF.out]; exact InI.nil _, KH.out⟩
  | true =>
    obtain ⟨g1, g2, g3, g4⟩ := (gg_iff n s).1 e1
    by_cases hb : 0 ≤ t ∧ t < s
    · have HF : Hid (X = (rowL n t, 0)) := HX.out.trans ((if_pos e1).trans (if_pos hb))
      have hR : R = 0 := ER.out.trans (rf_in e1 ((inR_one _ _).2 hb))
      subst hR
      obtain ⟨t1, t2⟩ := hb
      clear HX ER e1
      obtain ⟨N, rfl⟩ : ∃ N : Nat, n = N := ⟨n.toNat, by omega⟩
      have hN : N ≤ 32 := by omega
      have hmk : (Instr.makeSlice 22 (.int .i64 (N : Int)) (.int .i64 (N : Int))).run Tryz.prog w1 = .ok (.slice (some ⟨w1.heap.size, 0, none⟩) N N) (w1.alloc (.cells (madeCells #[.int .i64 0] N) 3)) := run_make_row' (P := Tryz.prog) 22 3 (.int .i64 0) 8 Tryz.underlying22 info_int rfl .i64 .i64 N (by omega) (by omega) w1
      have HM : Hid (FI (w1.alloc (.cells (madeCells #[.int .i64 0] N) 3)) w1.heap.size (.slice (some ⟨w1.heap.size, 0, none⟩) N N) N (rF N t 0)) := (FI.made w1 N (by omega)).congr2 (fun j _ => (rF_zero N t j (by omega)).symm)
      have K2 : Kp w1 (w1.alloc (.cells (madeCells #[.int .i64 0] N) 3)) := (Kp.refl w1).alloc _
      obtain ⟨W, hW⟩ : ∃ W, W = w1.alloc (.cells (madeCells #[.int .i64 0] N) 3) := ⟨_, rfl⟩
      rw [← hW] at hmk HM K2
      have C0 : Hid (∀ w', Kp w1 w' → w'.cell? ⟨w.heap.size, 0, none⟩ = some (.int .i64 (N : Int)) ∧ w'.cell? ⟨w.heap.size, 1, none⟩ = some (.int .i64 s)) := fun w' k => ⟨k.held c0, k.held c1⟩
      have d0 := K2.held c0
      clear hW
      go_wp2
      clear hmk d0 c0 c1
      go_loopw [24] (fun i wr => ∃ k : Nat, k ≤ N ∧ i = .int .i64 k ∧ Hid (FI wr w1.heap.size (.slice (some ⟨w1.heap.size, 0, none⟩) N N) N (rF N t k)) ∧ Kp w1 wr) (fun i _ => N - (intOf i).toNat)
      case atStart => exact ⟨0, by omega, rfl, HM, K2⟩
      case round =>
        clear HM K2
        obtain ⟨k, hk, rfl, HM, K2⟩ := hrel
        obtain ⟨c0, c1⟩ := C0.out _ K2
        by_cases hlt : k < N
        · have hC := colOn_any (N : Int) s t (k : Int) wr (by omega) (by omega) t1 (by omega) (by omega)
          unfold gV at hC
          have hcb := cM_bd t (k : Int) (n := (N : Int)) (by omega)
          obtain ⟨r, er⟩ : ∃ r : Nat, cM N t k = r := ⟨(cM N t k).toNat, by omega⟩
          have HST : Hid (∀ j, j < N → rF N t (k + 1) j = if j = r then (k : Int) else rF N t k j) := fun j hj => by
            have := rF_step N t k j (by omega) (by omega)
            rw [er] at this
            exact this
          rw [er] at hC hcb
          have hr : r < N := by omega
          clear er hcb
          go_wp2_with fail
          refine hC.mono ?_; rintro e w2 ⟨rfl, k2⟩
          have HM2 : Hid (FI w2 w1.heap.size (.slice (some ⟨w1.heap.size, 0, none⟩) N N) N (rF N t k)) := HM.out.kept k2
          have K3 : Kp w1 w2 := K2.trans k2
          have q0 := HM2.out.at r hr
          have q1 := HM2.out.z r
          clear hC HM k2 K2 c0 c1
          go_wp2
          go_roundw
          case rel => exact ⟨k + 1, by omega, by go_num, (HM2.out.set r k).congr2 (fun j hj => by rw [HST.out j hj]), K3.setB (Nat.le_refl _) _⟩
          case measure => simp [intOf]; omega
        · obtain rfl : k = N := by omega
          have HF2 : Hid (InI wr (.slice (some ⟨w1.heap.size, 0, none⟩) k k) (rowL k t)) := by
            have h1 := HM.out.ints
            rw [show (List.range k).map (rF k t k) = rowL k t from List.map_congr_left (fun j hj => rF_full k t j (by omega))] at h1
            exact h1
          clear HM
          go_wp2
          go_ret2
          exact ⟨_, by rw [HF.out]; rfl, by rw [HF.out]; exact HF2.out, KH.out.trans K2⟩
    · have HF : Hid (X = ([], 3)) := HX.out.trans ((if_pos e1).trans (if_neg hb))
      have hR : R = 3 := ER.out.trans (rf_out e1 (by rw [(inR_one _ _)]; exact hb))
      subst hR
      clear e1 ER HX hb
      go_wp2
      go_ret2
      exact ⟨.slice none 0 0, by rw [HF.out]; rfl, by rw [HF.out]; exact InI.nil _, KH.out⟩

end Go.Proofs.YtonooelffokfkaaGreatDoor

namespace Go.Proofs.YtonooelffokfkaaGreatDoor
open Go.RowKit Plain
set_option linter.unusedVariables false

/-- the member ahead of the column c. -/
def mm (n t : Int) (c : Nat) : Int := if c = 0 then nxt n (pM n t) else mM n t ((c - 1 : Nat) : Int)
theorem mm_zero (n t : Int) : mm n t 0 = nxt n (pM n t) := rfl
theorem mm_succ (n t : Int) (c : Nat) : mm n t (c + 1) = mM n t c := by unfold mm; rw [if_neg (by omega)]; simp
theorem mm_next (n t : Int) (c : Nat) (hn : 0 < n) : nxt n (mm n t c) = mM n t c := by
  cases c with
  | zero => rw [mm_zero]; exact (mM_first n t hn).symm
  | succ c => rw [mm_succ, Int.natCast_add]; exact (mM_next n t c hn).symm
theorem row_4 {n s t : Int} (hg : gg n s = false) : row n s t = ([], 4) := if_neg (by simp [hg])
theorem row_3 {n s t : Int} (hg : gg n s = true) (h : ¬ (0 ≤ t ∧ t < s)) : row n s t = ([], 3) := (if_pos hg).trans (if_neg h)
theorem row_0 {n s t : Int} (hg : gg n s = true) (h : 0 ≤ t ∧ t < s) : row n s t = (rowL n t, 0) := (if_pos hg).trans (if_pos h)
set_option maxRecDepth 100000 in
set_option maxHeartbeats 2000000 in
theorem rrow_any (n s t : Int) (w : World) : Calls Tryz.prog 52 #[gV n s, .int .i64 t] w fun e w' => ∃ v, e = .returned (.tuple #[v, .int .i64 (row n s t).2]) ∧ InI w' v (row n s t).1 ∧ Kp w w' := by
  obtain ⟨X, eX⟩ : ∃ X, X = row n s t := ⟨_, rfl⟩
  rw [← eX]
  have HX : Hid (X = row n s t) := eX
  clear eX
  have hG := rgood_any n s
  unfold gV at hG ⊢
  go_enter Tryz.func52, Tryz.ntmps52
  go_wp2_with fail
  refine (hG _).mono ?_; rintro e w1 ⟨rfl, k1⟩
  have c0 : w1.cell? ⟨w.heap.size, 0, none⟩ = some (.int .i64 n) := k1.held (by simp)
  have c1 : w1.cell? ⟨w.heap.size, 1, none⟩ = some (.int .i64 s) := k1.held (by simp)
  have KH : Hid (Kp w w1) := ((Kp.refl w).alloc _).trans k1
  clear k1
  clear hG
  cases e1 : gg n s with
  | false =>
    have HF : Hid (X = ([], 4)) := HX.out.trans (row_4 e1)
    clear e1 HX
    go_wp2
    go_ret2
    exact ⟨.slice none 0 0, by rw [HF.out]; rfl, by rw [HF.out]; exact InI.nil _, KH.out⟩
  | true =>
    have E1 : Hid (gg n s = true) := e1
    obtain ⟨g1, g2, g3, g4⟩ := (gg_iff n s).1 e1
    clear e1
    by_cases h1 : 0 ≤ t
    · by_cases h2 : t < s
      · have HF : Hid (X = (rowL n t, 0)) := HX.out.trans (row_0 E1.out ⟨h1, h2⟩)
        obtain ⟨T, rfl⟩ : ∃ T : Nat, t = T := ⟨t.toNat, by omega⟩
        have hTT : T ≤ 64 := by omega
        have C0 : Hid (∀ w', Kp w1 w' → w'.cell? ⟨w.heap.size, 0, none⟩ = some (.int .i64 n) ∧ w'.cell? ⟨w.heap.size, 1, none⟩ = some (.int .i64 s)) := fun w' k => ⟨k.held c0, k.held c1⟩
        clear HX E1
        go_wp2
        clear c0 c1
        go_loopw [8, 7] (fun i q wr => ∃ (I : Nat) (p : Int), I ≤ T ∧ i = .int .i64 I ∧ q = .int .i64 p ∧ Hid (p = pM n I) ∧ 0 ≤ p ∧ p < n ∧ wr = w1) (fun i _ _ => T - (intOf i).toNat)
        case atStart => exact ⟨0, n - 1, by omega, rfl, rfl, by show n - 1 = pM n ((0 : Nat) : Int); exact (pM_zero n).symm, by omega, by omega, rfl⟩
        case round =>
          obtain ⟨I, p, hI, rfl, rfl, HP, hp0, hp1, rfl⟩ := hrel
          obtain ⟨c0, c1⟩ := C0.out _ (Kp.refl _)
          by_cases hlt : I < T
          · have hs := pM_step n I (by omega) (by omega)
            rw [← HP.out] at hs
            by_cases hz : p - 1 < 0
            · rw [if_pos hz] at hs
              have HP2 : Hid (n - 1 = pM n ((I + 1 : Nat) : Int)) := hs.symm
              clear hs HP
              go_wp2
              go_roundw
              case rel => exact ⟨I + 1, n - 1, by omega, by go_num, by go_num, HP2, by omega, by omega, by trivial⟩
              case measure => simp [intOf]; omega
            · rw [if_neg hz] at hs
              have HP2 : Hid (p - 1 = pM n ((I + 1 : Nat) : Int)) := hs.symm
              clear hs HP
              go_wp2
              go_roundw
              case rel => exact ⟨I + 1, p - 1, by omega, by go_num, by go_num, HP2, by omega, by omega, by trivial⟩
              case measure => simp [intOf]; omega
          · obtain rfl : I = T := by omega
            have hN := next_anyL9 n s p wr (by omega) g2 hp0 hp1
            unfold gV at hN
            obtain ⟨q, eq⟩ : ∃ q, q = nxt n p := ⟨_, rfl⟩
            have hqb := nxt_bd n p hp0 hp1
            rw [← eq] at hN hqb
            rw [HP.out] at eq
            have HQ : Hid (q = nxt n (pM n I)) := eq
            obtain ⟨hq0, hq1⟩ := hqb
            obtain ⟨w1, hw1⟩ : ∃ w1, w1 = wr := ⟨_, rfl⟩
            rw [← hw1] at C0 hN KH c0 c1 ⊢
            clear eq hw1
            obtain ⟨K, hK⟩ : ∃ K : Nat, n - 2 = K := ⟨(n - 2).toNat, by omega⟩
            have hK2 : K ≤ 30 := by omega
            go_wp2_with fail
            refine hN.mono ?_; rintro e w2 ⟨rfl, k2⟩
            clear hN c0 c1
            go_wp2
            go_loopw [12, 11, 10] (fun i u m wr => ∃ (C : Nat) (M : Int), C ≤ K ∧ i = .int .i64 C ∧ m = .int .i64 M ∧ Hid (M = mm n I C) ∧ 0 ≤ M ∧ M < n ∧ Hid (OwnI wr w1.heap.size u (rT n I C)) ∧ Kp w1 wr) (fun i _ _ _ => K - (intOf i).toNat)
            case atStart => exact ⟨0, q, by omega, rfl, rfl, HQ, hq0, hq1, World.ownsRow_nil _ _ _ _, k2⟩
            case round =>
              clear k2
              obtain ⟨C, M, hC, rfl, rfl, HM, hm0, hm1, HO, k2⟩ := hrel
              obtain ⟨c0, c1⟩ := C0.out _ k2
              by_cases hlt2 : C < K
              · have hN := next_anyL9 n s M wr (by omega) g2 hm0 hm1
                unfold gV at hN
                obtain ⟨Y, eY⟩ : ∃ Y, Y = nxt n M := ⟨_, rfl⟩
                have hYb := nxt_bd n M hm0 hm1
                rw [← eY] at hN hYb
                rw [HM.out, mm_next n I C (by omega)] at eY
                have HY : Hid (Y = mM n I C) := eY
                have HY2 : Hid (Y = mm n I (C + 1)) := by rw [mm_succ]; exact eY
                have HR : Hid (rT n I (C + 1) = rT n I C ++ [Y]) := by rw [eY]; exact rT_succ n I C
                have hl : (rT n I C).length ≤ 30 := by rw [rT_len]; omega
                have HL : Hid ((rT n I C).length ≤ 30) := hl
                obtain ⟨hy0, hy1⟩ := hYb
                clear eY hl HM
                go_wp2_with fail
                refine hN.mono ?_; rintro e w3 ⟨rfl, k3⟩
                have HO3 : Hid (OwnI w3 w1.heap.size _ (rT n I C)) := HO.out.kept k3
                have K3 : Kp w1 w3 := k2.trans k3
                clear hN HO k3 k2 c0 c1
                go_wp2_with (at_builtin; refine wpList_append_int rfl _ _ rfl w1.heap.size _ (rT n I C) rfl (HO3.out.alloc _) (Y) _ rfl (by rw [World.cell?_alloc_at _ _ _ _ rfl]; rfl) (by have := HL.out; omega) (by have := K3.size; simp; omega) ?_; intro u2 w4 ho2 hg2; have K4 : Kp w1 w4 := (K3.alloc _).grown hg2 (fun q hq => own_lt HO3.out q hq); have HOw4 : Hid (OwnI w4 w1.heap.size u2 (rT n I C ++ [Y])) := ho2; clear ho2 hg2)
                go_roundw
                case rel => exact ⟨C + 1, Y, by omega, by go_num, rfl, HY2, hy0, hy1, by rw [HR.out]; exact HOw4, K4⟩
                case measure => simp [intOf]; omega
              · obtain rfl : C = K := by omega
                have hl : (rT n I C).length ≤ 30 := by rw [rT_len]; omega
                have HL : Hid ((rT n I C).length ≤ 30) := hl
                have HE : Hid (rT n I C ++ [p] ++ [q] = rowL n I) := by rw [HP.out, HQ.out]; exact rT_full n I C g1 hK.symm
                clear hl HM
                go_wp2_with (first
                  | (at_builtin; refine wpList_append_int rfl _ _ rfl w1.heap.size _ (rT n I C) rfl (HO.out.alloc _) (p) _ rfl (by rw [World.cell?_alloc_at _ _ _ _ rfl]; rfl) (by have := HL.out; omega) (by have := k2.size; simp; omega) ?_; intro u2 w4 ho2 hg2; have K4 : Kp w1 w4 := (k2.alloc _).grown hg2 (fun q hq => own_lt HO.out q hq); have HOw4 : Hid (OwnI w4 w1.heap.size u2 (rT n I C ++ [p])) := ho2; clear ho2 hg2)
                  | (at_builtin; refine wpList_append_int rfl _ _ rfl w1.heap.size _ (rT n I C ++ [p]) rfl (HOw4.out.alloc _) (q) _ rfl (by rw [World.cell?_alloc_at _ _ _ _ rfl]; rfl) (by have := HL.out; rw [List.length_append]; simp; omega) (by have := K4.size; simp; omega) ?_; intro u3 w5 ho2 hg2; have K5 : Kp w1 w5 := (K4.alloc _).grown hg2 (fun q hq => own_lt HOw4.out q hq); have HOw5 : Hid (OwnI w5 w1.heap.size u3 (rT n I C ++ [p] ++ [q])) := ho2; clear ho2 hg2))
                go_ret2
                have hfin := HOw5.out.ints
                rw [HE.out] at hfin
                exact ⟨_, by rw [HF.out]; rfl, by rw [HF.out]; exact hfin, KH.out.trans K5⟩
      · have HF : Hid (X = ([], 3)) := HX.out.trans (row_3 E1.out (by omega))
        clear HX E1
        go_wp2
        go_ret2
        exact ⟨.slice none 0 0, by rw [HF.out]; rfl, by rw [HF.out]; exact InI.nil _, KH.out⟩
    · have HF : Hid (X = ([], 3)) := HX.out.trans (row_3 E1.out (by omega))
      clear HX E1
      go_wp2
      go_ret2
      exact ⟨.slice none 0 0, by rw [HF.out]; rfl, by rw [HF.out]; exact InI.nil _, KH.out⟩

end Go.Proofs.YtonooelffokfkaaGreatDoor

namespace Go.Proofs.YtonooelffokfkaaGreatDoor
open Go.RowKit Plain
set_option linter.unusedVariables false

structure LB where
  n : Int
  s : Int
  ep : Int
  sts : List Int
  mks : List Int
/-- may a member of that state have that mark? -/
def mh (st mk s : Int) : Bool := if st = 0 ∨ st = 1 then decide (mk = 0) else if st = 2 then decide (0 ≤ mk ∧ mk < s) else false
/-- are the members good up to the k-th? -/
def mg (L : LB) (k : Nat) : Bool := decide (∀ i, i < k → mh (L.sts.getD i 0) (L.mks.getD i 0) L.s = true)
theorem mg_iff (L : LB) (k : Nat) : mg L k = true ↔ ∀ i, i < k → mh (L.sts.getD i 0) (L.mks.getD i 0) L.s = true := by simp [mg]
theorem mg_zero (L : LB) : mg L 0 = true := (mg_iff L 0).2 (fun i hi => absurd hi (by omega))
theorem mg_step (L : LB) (k : Nat) (h : mg L k = true) : mg L (k + 1) = mh (L.sts.getD k 0) (L.mks.getD k 0) L.s := by
  cases e : mh (L.sts.getD k 0) (L.mks.getD k 0) L.s with
  | true =>
    rw [mg_iff] at h ⊢
    intro i hi
    by_cases hk : i = k
    · rw [hk]; exact e
    · exact h i (by omega)
  | false =>
    rw [Bool.eq_false_iff, ne_eq, mg_iff]
    intro hh
    rw [hh k (by omega)] at e
    cases e
theorem mg_not (L : LB) (k m : Nat) (h : mg L k = false) (hk : k ≤ m) : mg L m = false := by
  rw [Bool.eq_false_iff, ne_eq, mg_iff] at h ⊢
  exact fun hh => h (fun i hi => hh i (by omega))
def lg (L : LB) : Bool := gg L.n L.s && decide (1 ≤ L.ep) && decide (L.ep ≤ 9007199254740992) && decide ((L.sts.length : Int) = L.n) && decide ((L.mks.length : Int) = L.n) && mg L L.sts.length
theorem lg_iff (L : LB) : lg L = true ↔ gg L.n L.s = true ∧ 1 ≤ L.ep ∧ L.ep ≤ 9007199254740992 ∧ (L.sts.length : Int) = L.n ∧ (L.mks.length : Int) = L.n ∧ mg L L.sts.length = true := by
  unfold lg
  simp only [Bool.and_eq_true, decide_eq_true_eq]
  constructor
  · rintro ⟨⟨⟨⟨⟨a, b⟩, c⟩, d⟩, e⟩, f⟩
    exact ⟨a, b, c, d, e, f⟩
  · rintro ⟨a, b, c, d, e, f⟩
    exact ⟨⟨⟨⟨⟨a, b⟩, c⟩, d⟩, e⟩, f⟩
theorem mh_bd {st mk s : Int} (h : mh st mk s = true) (hs : 1 ≤ s) : 0 ≤ st ∧ st ≤ 2 ∧ 0 ≤ mk ∧ mk < s ∧ (0 < mk → st = 2) := by
  unfold mh at h
  split at h
  · rename_i h1
    have h2 := of_decide_eq_true h
    omega
  · split at h
    · have h2 := of_decide_eq_true h
      omega
    · cases h
theorem mh_of {st mk s : Int} (h1 : 0 ≤ st) (h2 : st ≤ 2) (h3 : 0 ≤ mk) (h4 : mk < s) (h5 : 0 < mk → st = 2) : mh st mk s = true := by
  unfold mh
  split
  · exact decide_eq_true (by omega)
  · rw [if_pos (by omega)]; exact decide_eq_true ⟨h3, h4⟩

structure GL (L : LB) : Prop where
  n1 : 4 ≤ L.n
  n2 : L.n ≤ 32
  s1 : 1 ≤ L.s
  s2 : L.s ≤ 64
  e1 : 1 ≤ L.ep
  e2 : L.ep ≤ 9007199254740992
  l1 : (L.sts.length : Int) = L.n
  l2 : (L.mks.length : Int) = L.n
  m : ∀ i, i < L.sts.length → 0 ≤ L.sts.getD i 0 ∧ L.sts.getD i 0 ≤ 2 ∧ 0 ≤ L.mks.getD i 0 ∧ L.mks.getD i 0 < 64
theorem lg_gl {L : LB} (h : lg L = true) : GL L := by
  obtain ⟨a, b, c, d, e, f⟩ := (lg_iff L).1 h
  obtain ⟨g1, g2, g3, g4⟩ := (gg_iff _ _).1 a
  refine ⟨g1, g2, g3, g4, b, c, d, e, fun i hi => ?_⟩
  have := mh_bd ((mg_iff L _).1 f i hi) g3
  omega



/-! ### there and back -/
theorem list_of (l : List Int) (m : Nat) (g : Nat → Int) (hl : l.length = m) (h : ∀ i, i < m → g i = l.getD i 0) : (List.range m).map g = l := by
  apply List.ext_getElem?
  intro i
  rw [List.getElem?_map]
  by_cases hi : i < m
  · rw [List.getElem?_range hi, List.getElem?_eq_getElem (by omega)]
    have := h i hi
    rw [List.getD_eq_getElem?_getD, List.getElem?_eq_getElem (by omega)] at this
    simpa using this
  · rw [List.getElem?_eq_none (by simpa using hi), List.getElem?_eq_none (by omega)]; rfl


/-! ### what is asked of a label -/
def wh (L : LB) (m t : Int) : Bool := lg L && decide (0 ≤ m ∧ m < L.n) && decide (0 ≤ t ∧ t < L.s) && (decide (L.sts.getD m.toNat 0 = 0) || (decide (L.sts.getD m.toNat 0 = 2) && decide (t < L.mks.getD m.toNat 0)))
def mcL9 (l : List Int) : Nat := (l.filter (fun x => decide (x ≠ 0))).length
def ms (L : LB) : Nat := if lg L = true then mcL9 L.sts else 0

end Go.Proofs.YtonooelffokfkaaGreatDoor

namespace Go.Proofs.YtonooelffokfkaaGreatDoor
open Go.RowKit Plain
set_option linter.unusedVariables false

/-- numbers in memory. -/
structure Na (w : World) (a : Option Addr) (g off cap : Nat) (l : List Int) : Prop where
  le : l.length ≤ cap
  mx : cap ≤ 9223372036854775807
  ha : 0 < l.length → a = some ⟨g, off, none⟩
  c : ∀ j, j < l.length → w.cell? ⟨g, off + j, none⟩ = some (.int .i64 (l.getD j 0))
def Nl (w : World) (v : Value) (l : List Int) : Prop := ∃ a g off cap, v = .slice a l.length cap ∧ Na w a g off cap l
theorem Na.kept {w w' : World} {a : Option Addr} {g off cap : Nat} {l : List Int} (h : Na w a g off cap l) (k : Kp w w') : Na w' a g off cap l := ⟨h.le, h.mx, h.ha, fun j hj => k.held (h.c j hj)⟩
theorem Nl.kept {w w' : World} {v : Value} {l : List Int} (h : Nl w v l) (k : Kp w w') : Nl w' v l := by
  obtain ⟨a, g, off, cap, rfl, h⟩ := h
  exact ⟨a, g, off, cap, rfl, h.kept k⟩
theorem Nl.nil (w : World) : Nl w (.slice none 0 0) [] := ⟨none, 0, 0, 0, rfl, ⟨by simp, by omega, fun h => absurd h (by simp), fun j hj => absurd hj (by simp)⟩⟩
theorem Nl.of {w : World} {v : Value} {l : List Int} (h : InI w v l) : Nl w v l := by
  obtain ⟨a, g, cap, rfl, h1, h2, h3, h4⟩ := h
  exact ⟨a, g, 0, cap, rfl, ⟨h1, h2, h3, fun j hj => by rw [Nat.zero_add]; exact h4 j hj⟩⟩
/-- a row of numbers of the call's own, whatever the type of its elements. -/
def Fe (e : TypeId) (w : World) (base : Nat) (v : Value) (n : Nat) (f : Nat → Int) : Prop := w.ownsRow base e 1 v n ((List.range n).map fun i => Value.int .i64 (f i))
theorem Fe.kept {e : TypeId} {w w' : World} {base : Nat} {v : Value} {n : Nat} {f : Nat → Int} (h : Fe e w base v n f) (k : Kp w w') : Fe e w' base v n f := k.own h
theorem Fe.shape {e : TypeId} {w : World} {base : Nat} {v : Value} {n : Nat} {f : Nat → Int} (h : Fe e w base v n f) : ∃ a cap, v = .slice a n cap ∧ n ≤ cap ∧ cap ≤ 9223372036854775807 ∧ (0 < n → ∃ g, a = some ⟨g, 0, none⟩ ∧ base ≤ g ∧ g < w.heap.size) := by
  rcases h.2 with ⟨rfl, rfl⟩ | ⟨g, cap, cur, rfl, hb, hg, hn, hm, _⟩
  · exact ⟨none, 0, rfl, by omega, by omega, fun h => absurd h (by omega)⟩
  · unfold maxLen at hm
    exact ⟨_, cap, rfl, hn, by omega, fun _ => ⟨g, rfl, hb, (Array.getElem?_eq_some_iff.1 hg).1⟩⟩
theorem Fe.at {e : TypeId} {w : World} {base g n cap : Nat} {f : Nat → Int} (h : Fe e w base (.slice (some ⟨g, 0, none⟩) n cap) n f) (j : Nat) (hj : j < n) : w.cell? ⟨g, j, none⟩ = some (.int .i64 (f j)) := by
  rw [World.ownsRow.cellAt h j (by omega)]
  simp [hj]
theorem Fe.z {e : TypeId} {w : World} {base g n cap : Nat} {f : Nat → Int} (h : Fe e w base (.slice (some ⟨g, 0, none⟩) n cap) n f) (o : Nat) : w.frozen? ⟨g, o, none⟩ = false := World.ownsRow.frozenAt h o
theorem Fe.set {e : TypeId} {w : World} {base g n cap : Nat} {f : Nat → Int} (h : Fe e w base (.slice (some ⟨g, 0, none⟩) n cap) n f) (j : Nat) (x : Int) : Fe e (w.setCell ⟨g, j, none⟩ (.int .i64 x)) base (.slice (some ⟨g, 0, none⟩) n cap) n (fun i => if i = j then x else f i) := by
  have h1 := (World.ownsRow.stored h j (.int .i64 x)).1
  have e : ((List.range n).map fun i => Value.int .i64 (if i = j then x else f i)) = ((List.range n).map fun i => Value.int .i64 (f i)).set j (.int .i64 x) := by
    apply List.ext_getElem?
    intro i
    rw [List.getElem?_set, List.getElem?_map, List.getElem?_map, List.length_map, List.length_range]
    by_cases hi : i < n
    · rw [List.getElem?_range hi]
      by_cases e : j = i
      · subst e; simp [hi]
      · have : ¬ i = j := fun h => e h.symm
        simp [e, this]
    · rw [List.getElem?_eq_none (by simpa using hi)]
      by_cases e : j = i
      · subst e; simp [hi]
      · simp [e]
  unfold Fe
  rw [e]
  exact h1
theorem Fe.congr {e : TypeId} {w : World} {base : Nat} {v : Value} {n : Nat} {f g : Nat → Int} (h : Fe e w base v n f) (he : ∀ j, j < n → f j = g j) : Fe e w base v n g := by
  have : ((List.range n).map fun i => Value.int .i64 (g i)) = (List.range n).map fun i => Value.int .i64 (f i) := List.map_congr_left fun i hi => by rw [he i (by simpa using hi)]
  unfold Fe
  rw [this]
  exact h
theorem Fe.made (e : TypeId) (w : World) (n : Nat) (hn : n ≤ 1000) : Fe e (w.alloc (.cells (madeCells #[.int .i64 0] n) e)) w.heap.size (.slice (some ⟨w.heap.size, 0, none⟩) n n) n (fun _ => 0) := by
  refine ⟨by simp, .inr ⟨w.heap.size, n, _, rfl, Nat.le_refl _, heap_alloc_new w _, Nat.le_refl _, by unfold maxLen; omega, by rw [size_madeCells]; simp, ?_⟩⟩
  apply List.ext_getElem?
  intro i
  by_cases hi : i < n
  · simp [madeCells, hi, Nat.mod_one]
  · simp [madeCells, hi, Nat.mod_one]
theorem Fe.nums {e : TypeId} {w : World} {base : Nat} {v : Value} {n : Nat} {f : Nat → Int} (h : Fe e w base v n f) : Nl w v ((List.range n).map f) := by
  obtain ⟨a, cap, rfl, h1, h2, h3⟩ := h.shape
  by_cases h0 : 0 < n
  · obtain ⟨g, rfl, _⟩ := h3 h0
    exact ⟨_, g, 0, cap, by simp, ⟨by simpa using h1, h2, fun _ => rfl, fun j hj => by
      have hj2 : j < n := by simpa using hj
      rw [Nat.zero_add, h.at j hj2]; simp [List.getD_eq_getElem?_getD, hj2]⟩⟩
  · obtain rfl : n = 0 := by omega
    exact ⟨a, 0, 0, cap, rfl, ⟨by simp, h2, fun h => absurd h (by simp), fun j hj => absurd hj (by simp)⟩⟩
theorem Fe.mono {e : TypeId} {w : World} {base b2 : Nat} {v : Value} {n : Nat} {f : Nat → Int} (h : Fe e w base v n f) (hb : b2 ≤ base) : Fe e w b2 v n f := by
  refine ⟨h.1, ?_⟩
  rcases h.2 with h' | ⟨g, cap, cur, h', hb', hr⟩
  · exact .inl h'
  · exact .inr ⟨g, cap, cur, h', by omega, hr⟩

/-! ### labels -/
def lV (n s ep : Int) (sv mv : Value) : Value := .agg #[.int .i64 n, .int .i64 s, .int .i64 ep, sv, mv]
/-- the five cells at block b. -/
structure Lc (w : World) (b : Nat) (n s ep : Int) (sv mv : Value) : Prop where
  c0 : w.cell? ⟨b, 0, none⟩ = some (.int .i64 n)
  c1 : w.cell? ⟨b, 1, none⟩ = some (.int .i64 s)
  c2 : w.cell? ⟨b, 2, none⟩ = some (.int .i64 ep)
  c3 : w.cell? ⟨b, 3, none⟩ = some sv
  c4 : w.cell? ⟨b, 4, none⟩ = some mv
theorem Lc.kept {w w' : World} {b : Nat} {n s ep : Int} {sv mv : Value} (h : Lc w b n s ep sv mv) (k : Kp w w') : Lc w' b n s ep sv mv := ⟨k.held h.c0, k.held h.c1, k.held h.c2, k.held h.c3, k.held h.c4⟩
theorem Lc.new (w : World) (n s ep : Int) (sv mv : Value) (t : TypeId) : Lc (w.alloc (.cells #[.int .i64 n, .int .i64 s, .int .i64 ep, sv, mv] t)) w.heap.size n s ep sv mv := by
  refine ⟨?_, ?_, ?_, ?_, ?_⟩ <;> (rw [World.cell?_alloc_at _ _ _ _ rfl]; rfl)
theorem load_cells {P : Program} {w : World} {b : Nat} (l : List Value) (h : ∀ j v, l[j]? = some v → w.cell? ⟨b, j, none⟩ = some v) (ty : TypeId) (fs : Array Field) (hu : P.underlying ty = some (.struct fs)) (hi : (P.info? ty).map (·.size) = some l.length) :
    (loadVar ty ⟨b, 0, none⟩).run P w = .ok (.agg l.toArray) w := by
  have hl : (loadCells ⟨b, 0, none⟩ l.length).run P w = .ok l.toArray w :=
    run_loadCells_list (P := P) w ⟨b, 0, none⟩ l (fun j x hx => by
      have hadd : (⟨b, 0, none⟩ : Addr).add j = ⟨b, j, none⟩ := by unfold Addr.add; split <;> simp_all
      rw [hadd]
      exact h j x hx)
  cases hq : P.info? ty with
  | none => simp [hq] at hi
  | some i =>
    have hs : i.size = l.length := by simpa [hq] using hi
    have hagg : (isAgg ty).run P w = .ok true w := by
      unfold isAgg
      rw [Sem.run_bind, run_underlying hu w]
      rfl
    simp [loadVar, Sem.run_bind, hagg, sizeOf, typeInfo, hq, hs, hl]
theorem size_lb : (Tryz.prog.info? 30).map (·.size) = some 5 := by kernel_rfl
theorem size_rl : (Tryz.prog.info? 33).map (·.size) = some 5 := by kernel_rfl
theorem Lc.at {w : World} {b : Nat} {n s ep : Int} {sv mv : Value} (h : Lc w b n s ep sv mv) (j : Nat) (v : Value) (hv : [Value.int .i64 n, .int .i64 s, .int .i64 ep, sv, mv][j]? = some v) : w.cell? ⟨b, j, none⟩ = some v := by
  match j, hv with
  | 0, hv => simp at hv; rw [← hv]; exact h.c0
  | 1, hv => simp at hv; rw [← hv]; exact h.c1
  | 2, hv => simp at hv; rw [← hv]; exact h.c2
  | 3, hv => simp at hv; rw [← hv]; exact h.c3
  | 4, hv => simp at hv; rw [← hv]; exact h.c4
theorem Lc.load {w : World} {b : Nat} {n s ep : Int} {sv mv : Value} (h : Lc w b n s ep sv mv) : (loadVar 30 ⟨b, 0, none⟩).run Tryz.prog w = .ok (lV n s ep sv mv) w :=
  load_cells [.int .i64 n, .int .i64 s, .int .i64 ep, sv, mv] h.at 30 _ Tryz.underlying30 size_lb
theorem Lc.rload {w : World} {b : Nat} {n s ep : Int} {sv mv : Value} (h : Lc w b n s ep sv mv) : (loadVar 33 ⟨b, 0, none⟩).run Tryz.prog w = .ok (lV n s ep sv mv) w :=
  load_cells [.int .i64 n, .int .i64 s, .int .i64 ep, sv, mv] h.at 33 _ Tryz.underlying33 size_rl
theorem results_lb {fn : Func} {t : Tmp} (h : fn.results = #[.cell t 30]) (tmps : Array Value) (w : World) (b : Nat) {n s ep : Int} {sv mv : Value} (hp : tmps.getD t undef = .pointer (some ⟨b, 0, none⟩)) (h0 : Lc w b n s ep sv mv) :
    (results fn tmps).run Tryz.prog w = .ok (lV n s ep sv mv) w := by
  have hp' : tmps[t]?.getD undef = .pointer (some ⟨b, 0, none⟩) := by simpa using hp
  simp [results, h, hp', asAddr, h0.load]
theorem results_lb2 {fn : Func} {t u : Tmp} (h : fn.results = #[.cell t 30, .tmp u]) (tmps : Array Value) (w : World) (b : Nat) {n s ep : Int} {sv mv x : Value} (hp : tmps.getD t undef = .pointer (some ⟨b, 0, none⟩)) (hx : tmps.getD u undef = x) (h0 : Lc w b n s ep sv mv) :
    (results fn tmps).run Tryz.prog w = .ok (.tuple #[lV n s ep sv mv, x]) w := by
  rw [results_cell_tmp h]
  rw [hp, hx]
  simp [asAddr, h0.load]
theorem results_both {fn : Func} {t u : Tmp} (h : fn.results = #[.cell t 30, .cell u 33]) (tmps : Array Value) (w : World) (b c : Nat) {n s ep n2 s2 ep2 : Int} {sv mv sv2 mv2 : Value} (hp : tmps.getD t undef = .pointer (some ⟨b, 0, none⟩)) (hx : tmps.getD u undef = .pointer (some ⟨c, 0, none⟩)) (h0 : Lc w b n s ep sv mv) (h1 : Lc w c n2 s2 ep2 sv2 mv2) :
    (results fn tmps).run Tryz.prog w = .ok (.tuple #[lV n s ep sv mv, lV n2 s2 ep2 sv2 mv2]) w := by
  have hp' : tmps[t]?.getD undef = .pointer (some ⟨b, 0, none⟩) := by simpa using hp
  have hx' : tmps[u]?.getD undef = .pointer (some ⟨c, 0, none⟩) := by simpa using hx
  simp [results, h, hp', hx', asAddr, h0.load, h1.rload]

end Go.Proofs.YtonooelffokfkaaGreatDoor

namespace Go.Proofs.YtonooelffokfkaaGreatDoor
open Go.RowKit Plain
set_option linter.unusedVariables false

set_option maxRecDepth 100000 in
theorem mayHave_any (st mk s : Int) (w : World) : Calls Tryz.prog 88 #[.int .i64 st, .int .i64 mk, .int .i64 s] w fun e w' => e = .returned (.bool (mh st mk s)) ∧ w' = w := by
  by_cases h0 : st = 0
  · have HM : Hid (mh st mk s = (mk == 0)) := by show mh st mk s = _; unfold mh; rw [if_pos (Or.inl h0)]; by_cases h : mk = 0 <;> simp [h]
    have e0 : (st == 0) = true := beq_iff_eq.2 h0
    clear h0
    go_enter Tryz.func88, Tryz.ntmps88
    go_wp2
    go_ret
    exact ⟨by rw [HM.out]; rfl, rfl⟩
  · have e0 : (st == 0) = false := beq_eq_false_iff_ne.2 h0
    by_cases h1 : st = 1
    · have HM : Hid (mh st mk s = (mk == 0)) := by show mh st mk s = _; unfold mh; rw [if_pos (Or.inr h1)]; by_cases h : mk = 0 <;> simp [h]
      have e1 : (st == 1) = true := beq_iff_eq.2 h1
      clear h0 h1
      go_enter Tryz.func88, Tryz.ntmps88
      go_wp2
      go_ret
      exact ⟨by rw [HM.out]; rfl, rfl⟩
    · have e1 : (st == 1) = false := beq_eq_false_iff_ne.2 h1
      by_cases h2 : st = 2
      · have e2 : (st == 2) = true := beq_iff_eq.2 h2
        by_cases h3 : 0 ≤ mk
        · by_cases h4 : mk < s
          · have HM : Hid (mh st mk s = true) := by show mh st mk s = _; unfold mh; rw [if_neg (by omega), if_pos h2]; exact decide_eq_true ⟨h3, h4⟩
            clear h0 h1 h2
            go_enter Tryz.func88, Tryz.ntmps88
            go_wp2
            go_ret
            exact ⟨by rw [HM.out]; rfl, rfl⟩
          · have HM : Hid (mh st mk s = false) := by show mh st mk s = _; unfold mh; rw [if_neg (by omega), if_pos h2]; exact decide_eq_false (fun h => h4 h.2)
            clear h0 h1 h2
            go_enter Tryz.func88, Tryz.ntmps88
            go_wp2
            go_ret
            exact ⟨by rw [HM.out]; rfl, rfl⟩
        · have HM : Hid (mh st mk s = false) := by show mh st mk s = _; unfold mh; rw [if_neg (by omega), if_pos h2]; exact decide_eq_false (fun h => h3 h.1)
          clear h0 h1 h2
          go_enter Tryz.func88, Tryz.ntmps88
          go_wp2
          go_ret
          exact ⟨by rw [HM.out]; rfl, rfl⟩
      · have e2 : (st == 2) = false := beq_eq_false_iff_ne.2 h2
        have HM : Hid (mh st mk s = false) := by show mh st mk s = _; unfold mh; rw [if_neg (by omega), if_neg h2]
        clear h0 h1 h2
        go_enter Tryz.func88, Tryz.ntmps88
        go_wp2
        go_ret
        exact ⟨by rw [HM.out]; rfl, rfl⟩
set_option maxRecDepth 100000 in
set_option maxHeartbeats 2000000 in
theorem lgood_any (L : LB) (sv mv : Value) (w : World) (h1 : Nl w sv L.sts) (h2 : Nl w mv L.mks) : Calls Tryz.prog 47 #[lV L.n L.s L.ep sv mv] w fun e w' => e = .returned (.bool (lg L)) ∧ Kp w w' := by
  have hG := good_any L.n L.s
  obtain ⟨X, eX⟩ : ∃ X, X = lg L := ⟨_, rfl⟩
  rw [← eX]
  have HX : Hid (X = lg L) := eX
  have HI := lg_iff L
  have HS : Hid (∀ k, mg L k = true → mg L (k + 1) = mh (L.sts.getD k 0) (L.mks.getD k 0) L.s) := mg_step L
  have HN : Hid (∀ k m, mg L k = false → k ≤ m → mg L m = false) := mg_not L
  have HZ : Hid (mg L 0 = true) := mg_zero L
  obtain ⟨a1, g1, o1, p1, rfl, A1⟩ := h1
  obtain ⟨a2, g2, o2, p2, rfl, A2⟩ := h2
  obtain ⟨n, s, ep, sts, mks⟩ := L
  simp only at *
  obtain ⟨N1, hN1⟩ : ∃ N, N = sts.length := ⟨_, rfl⟩
  obtain ⟨N2, hN2⟩ : ∃ N, N = mks.length := ⟨_, rfl⟩
  have i1 := A1.ha
  have i2 := A2.ha
  have m1 : N1 ≤ 9223372036854775807 := by have := A1.le; have := A1.mx; omega
  have m2 : N2 ≤ 9223372036854775807 := by have := A2.le; have := A2.mx; omega
  rw [← hN1] at HI i1 ⊢
  rw [← hN2] at HI i2 ⊢
  have HA1 : Hid (Na w a1 g1 o1 p1 sts) := A1
  have HA2 : Hid (Na w a2 g2 o2 p2 mks) := A2
  have HN1 : Hid (N1 = sts.length) := hN1
  have HN2 : Hid (N2 = mks.length) := hN2
  have HI2 : Hid (lg ⟨n, s, ep, sts, mks⟩ = true ↔ gg n s = true ∧ 1 ≤ ep ∧ ep ≤ 9007199254740992 ∧ (N1 : Int) = n ∧ (N2 : Int) = n ∧ mg ⟨n, s, ep, sts, mks⟩ N1 = true) := HI
  clear eX HI A1 A2 hN1 hN2
  unfold lV
  cases e1 : gg n s with
  | false =>
    have HF : Hid (X = false) := by rw [HX.out, Bool.eq_false_iff, ne_eq, HI2.out]; exact fun h => (by rw [e1] at h; exact absurd h.1 (by simp))
    rw [e1] at hG
    clear e1
    unfold gV at hG
    go_enter Tryz.func47, Tryz.ntmps47
    go_wp2_with fail
    refine (hG _).mono ?_; rintro e w1 ⟨rfl, k1⟩
    have K1 : Kp w w1 := ((Kp.refl w).alloc _).trans k1
    clear hG k1
    go_wp2
    go_ret
    exact ⟨by rw [HF.out]; rfl, K1⟩
  | true =>
  rw [e1] at hG
  have HG : Hid (gg n s = true) := e1
  clear e1
  unfold gV at hG
  by_cases he1 : 1 ≤ ep
  case neg =>
    have HF : Hid (X = false) := by rw [HX.out, Bool.eq_false_iff, ne_eq, HI2.out]; exact fun h => he1 h.2.1
    go_enter Tryz.func47, Tryz.ntmps47
    go_wp2_with fail
    refine (hG _).mono ?_; rintro e w1 ⟨rfl, k1⟩
    have c0 : w1.cell? ⟨w.heap.size, 0, none⟩ = some (.int .i64 n) := k1.held (by simp)
    have c1 : w1.cell? ⟨w.heap.size, 1, none⟩ = some (.int .i64 s) := k1.held (by simp)
    have c2 : w1.cell? ⟨w.heap.size, 2, none⟩ = some (.int .i64 ep) := k1.held (by simp)
    have c3 : w1.cell? ⟨w.heap.size, 3, none⟩ = some (.slice a1 N1 p1) := k1.held (by simp)
    have c4 : w1.cell? ⟨w.heap.size, 4, none⟩ = some (.slice a2 N2 p2) := k1.held (by simp)
    have K1 : Kp w w1 := ((Kp.refl w).alloc _).trans k1
    clear hG k1
    go_wp2
    go_ret
    exact ⟨by rw [HF.out]; rfl, K1⟩
  by_cases he2 : ep ≤ 9007199254740992
  case neg =>
    have HF : Hid (X = false) := by rw [HX.out, Bool.eq_false_iff, ne_eq, HI2.out]; exact fun h => he2 h.2.2.1
    go_enter Tryz.func47, Tryz.ntmps47
    go_wp2_with fail
    refine (hG _).mono ?_; rintro e w1 ⟨rfl, k1⟩
    have c0 : w1.cell? ⟨w.heap.size, 0, none⟩ = some (.int .i64 n) := k1.held (by simp)
    have c1 : w1.cell? ⟨w.heap.size, 1, none⟩ = some (.int .i64 s) := k1.held (by simp)
    have c2 : w1.cell? ⟨w.heap.size, 2, none⟩ = some (.int .i64 ep) := k1.held (by simp)
    have c3 : w1.cell? ⟨w.heap.size, 3, none⟩ = some (.slice a1 N1 p1) := k1.held (by simp)
    have c4 : w1.cell? ⟨w.heap.size, 4, none⟩ = some (.slice a2 N2 p2) := k1.held (by simp)
    have K1 : Kp w w1 := ((Kp.refl w).alloc _).trans k1
    clear hG k1
    go_wp2
    go_ret
    exact ⟨by rw [HF.out]; rfl, K1⟩
  by_cases hl1 : (N1 : Int) = n
  case neg =>
    have HF : Hid (X = false) := by rw [HX.out, Bool.eq_false_iff, ne_eq, HI2.out]; exact fun h => hl1 h.2.2.2.1
    have hb1 : ((N1 : Int) != n) = true := by simpa using hl1
    clear hl1
    go_enter Tryz.func47, Tryz.ntmps47
    go_wp2_with fail
    refine (hG _).mono ?_; rintro e w1 ⟨rfl, k1⟩
    have c0 : w1.cell? ⟨w.heap.size, 0, none⟩ = some (.int .i64 n) := k1.held (by simp)
    have c1 : w1.cell? ⟨w.heap.size, 1, none⟩ = some (.int .i64 s) := k1.held (by simp)
    have c2 : w1.cell? ⟨w.heap.size, 2, none⟩ = some (.int .i64 ep) := k1.held (by simp)
    have c3 : w1.cell? ⟨w.heap.size, 3, none⟩ = some (.slice a1 N1 p1) := k1.held (by simp)
    have c4 : w1.cell? ⟨w.heap.size, 4, none⟩ = some (.slice a2 N2 p2) := k1.held (by simp)
    have K1 : Kp w w1 := ((Kp.refl w).alloc _).trans k1
    clear hG k1
    go_wp2
    go_ret
    exact ⟨by rw [HF.out]; rfl, K1⟩
  have hb1 : ((N1 : Int) != n) = false := by simpa using hl1
  have HL1 : Hid ((N1 : Int) = n) := hl1
  clear hl1
  by_cases hl2 : (N2 : Int) = n
  case neg =>
    have HF : Hid (X = false) := by rw [HX.out, Bool.eq_false_iff, ne_eq, HI2.out]; exact fun h => hl2 h.2.2.2.2.1
    have hb2 : ((N2 : Int) != n) = true := by simpa using hl2
    clear hl2
    go_enter Tryz.func47, Tryz.ntmps47
    go_wp2_with fail
    refine (hG _).mono ?_; rintro e w1 ⟨rfl, k1⟩
    have c0 : w1.cell? ⟨w.heap.size, 0, none⟩ = some (.int .i64 n) := k1.held (by simp)
    have c1 : w1.cell? ⟨w.heap.size, 1, none⟩ = some (.int .i64 s) := k1.held (by simp)
    have c2 : w1.cell? ⟨w.heap.size, 2, none⟩ = some (.int .i64 ep) := k1.held (by simp)
    have c3 : w1.cell? ⟨w.heap.size, 3, none⟩ = some (.slice a1 N1 p1) := k1.held (by simp)
    have c4 : w1.cell? ⟨w.heap.size, 4, none⟩ = some (.slice a2 N2 p2) := k1.held (by simp)
    have K1 : Kp w w1 := ((Kp.refl w).alloc _).trans k1
    clear hG k1
    go_wp2
    go_ret
    exact ⟨by rw [HF.out]; rfl, K1⟩
  have hb2 : ((N2 : Int) != n) = false := by simpa using hl2
  have HL2 : Hid ((N2 : Int) = n) := hl2
  have h12 : N2 = N1 := by have := HL1.out; omega
  have HM : Hid (X = mg ⟨n, s, ep, sts, mks⟩ N1) := by
    show X = _
    rw [HX.out]
    cases e : mg ⟨n, s, ep, sts, mks⟩ N1 with
    | true => exact HI2.out.2 ⟨HG.out, he1, he2, HL1.out, hl2, e⟩
    | false => rw [Bool.eq_false_iff, ne_eq, HI2.out]; exact fun h => (by rw [e] at h; exact absurd h.2.2.2.2.2 (by simp))
  rw [h12] at hb2 i2 ⊢
  have g3 : 1 ≤ s := ((gg_iff _ _).1 HG.out).2.2.1
  have HN2b : Hid (N1 = mks.length) := by rw [← h12]; exact HN2.out
  clear hl2 HX HI2 HG HL2 HL1 h12 HN2
  go_enter Tryz.func47, Tryz.ntmps47
  go_wp2_with fail
  refine (hG _).mono ?_; rintro e w1 ⟨rfl, k1⟩
  have c0 : w1.cell? ⟨w.heap.size, 0, none⟩ = some (.int .i64 n) := k1.held (by simp)
  have c1 : w1.cell? ⟨w.heap.size, 1, none⟩ = some (.int .i64 s) := k1.held (by simp)
  have c2 : w1.cell? ⟨w.heap.size, 2, none⟩ = some (.int .i64 ep) := k1.held (by simp)
  have c3 : w1.cell? ⟨w.heap.size, 3, none⟩ = some (.slice a1 N1 p1) := k1.held (by simp)
  have c4 : w1.cell? ⟨w.heap.size, 4, none⟩ = some (.slice a2 N1 p2) := k1.held (by simp)
  have K1 : Kp w w1 := ((Kp.refl w).alloc _).trans k1
  clear hG k1
  have hLc : Lc w1 w.heap.size n s ep (.slice a1 N1 p1) (.slice a2 N1 p2) := ⟨c0, c1, c2, c3, c4⟩
  have HLc : Hid (Lc w1 w.heap.size n s ep (.slice a1 N1 p1) (.slice a2 N1 p2)) := hLc
  have hbw : w.heap.size < w1.heap.size := World.block_lt_of_cell? _ _ c0
  clear hLc
  go_wp2
  clear c0 c1 c2 c3 c4
  go_loopw [38] (fun i wr => ∃ k : Nat, k ≤ N1 ∧ i = .int .i64 k ∧ Hid (mg ⟨n, s, ep, sts, mks⟩ k = true) ∧ Kp w1 wr) (fun i _ => N1 - (intOf i).toNat)
  case atStart => exact ⟨0, Nat.zero_le _, rfl, HZ.out, Kp.refl w1⟩
  case round =>
    obtain ⟨k, hk, rfl, HK, hK⟩ := hrel
    by_cases hlt : k < N1
    · obtain rfl := i1 (by omega)
      obtain rfl := i2 (by omega)
      have d1 := (K1.trans hK).held (HA1.out.c k (by rw [← HN1.out]; exact hlt))
      have d2 := (K1.trans hK).held (HA2.out.c k (by rw [← HN2b.out]; omega))
      have hS := HS.out k HK.out
      obtain ⟨x, hx⟩ : ∃ x, x = sts.getD k 0 := ⟨_, rfl⟩
      obtain ⟨y, hy⟩ : ∃ y, y = mks.getD k 0 := ⟨_, rfl⟩
      rw [← hx] at d1 hS
      rw [← hy] at d2 hS
      have l := HLc.out.kept hK
      have hM := mayHave_any x y s
      clear hx hy
      obtain ⟨B, hB⟩ : ∃ B, B = mh x y s := ⟨_, rfl⟩
      rw [← hB] at hS hM
      have HS2 : Hid (mg ⟨n, s, ep, sts, mks⟩ (k + 1) = B) := hS
      clear hB hS
      have l0 := kpw_cell l.c0
      have l1 := kpw_cell l.c1
      have l2 := kpw_cell l.c2
      have l3 := kpw_cell l.c3
      have l4 := kpw_cell l.c4
      have f2 := kpw_cell d2
      clear l HK
      go_wp2_with fail
      refine wp_region_kp (by kernel_rfl) (by kernel_rfl) ?_
      repeat (first
        | go_big_quiet_skip
        | (go_big_quiet_want; go_big_quiet_op; go_big_quiet_on)
        | (go_big_quiet_want; go_big_quiet_op; apply Exists.intro; refine ⟨fun p => ?_, ?_⟩; (focus
            first
            | (go_at_call 88; exact kp_same (hM _))); go_big_quiet_on))
      refine wpQuiet_nil ?_
      rintro w2 ⟨p, rfl⟩
      have K2 := hK.trans (kpw_kp wr p)
      clear l0 l1 l2 l3 l4 f2 d1 d2 hM
      cases B with
      | true =>
        go_wp2
        go_roundw
        case rel => exact ⟨k + 1, by omega, by go_num, HS2, K2⟩
        case measure => simp [intOf]; omega
      | false =>
        have HF : Hid (X = false) := by rw [HM.out]; exact HN.out (k + 1) N1 HS2.out (by omega)
        go_wp2
        go_ret
        exact ⟨by rw [HF.out]; rfl, K1.trans K2⟩
    · obtain rfl : k = N1 := by omega
      have HF : Hid (X = true) := by rw [HM.out]; exact HK.out
      go_wp2
      go_ret
      exact ⟨by rw [HF.out]; rfl, K1.trans hK⟩
set_option maxRecDepth 100000 in
set_option maxHeartbeats 2000000 in
theorem rlgood_any (L : LB) (sv mv : Value) (w : World) (h1 : Nl w sv L.sts) (h2 : Nl w mv L.mks) : Calls Tryz.prog 87 #[lV L.n L.s L.ep sv mv] w fun e w' => e = .returned (.bool (lg L)) ∧ Kp w w' := by
  have hG := rgood_any L.n L.s
  obtain ⟨X, eX⟩ : ∃ X, X = lg L := ⟨_, rfl⟩
  rw [← eX]
  have HX : Hid (X = lg L) := eX
  have HI := lg_iff L
  have HS : Hid (∀ k, mg L k = true → mg L (k + 1) = mh (L.sts.getD k 0) (L.mks.getD k 0) L.s) := mg_step L
  have HN : Hid (∀ k m, mg L k = false → k ≤ m → mg L m = false) := mg_not L
  have HZ : Hid (mg L 0 = true) := mg_zero L
  obtain ⟨a1, g1, o1, p1, rfl, A1⟩ := h1
  obtain ⟨a2, g2, o2, p2, rfl, A2⟩ := h2
  obtain ⟨n, s, ep, sts, mks⟩ := L
  simp only at *
  obtain ⟨N1, hN1⟩ : ∃ N, N = sts.length := ⟨_, rfl⟩
  obtain ⟨N2, hN2⟩ : ∃ N, N = mks.length := ⟨_, rfl⟩
  have i1 := A1.ha
  have i2 := A2.ha
  have m1 : N1 ≤ 9223372036854775807 := by have := A1.le; have := A1.mx; omega
  have m2 : N2 ≤ 9223372036854775807 := by have := A2.le; have := A2.mx; omega
  rw [← hN1] at HI i1 ⊢
  rw [← hN2] at HI i2 ⊢
  have HA1 : Hid (Na w a1 g1 o1 p1 sts) := A1
  have HA2 : Hid (Na w a2 g2 o2 p2 mks) := A2
  have HN1 : Hid (N1 = sts.length) := hN1
  have HN2 : Hid (N2 = mks.length) := hN2
  have HI2 : Hid (lg ⟨n, s, ep, sts, mks⟩ = true ↔ gg n s = true ∧ 1 ≤ ep ∧ ep ≤ 9007199254740992 ∧ (N1 : Int) = n ∧ (N2 : Int) = n ∧ mg ⟨n, s, ep, sts, mks⟩ N1 = true) := HI
  clear eX HI A1 A2 hN1 hN2
  unfold lV
  cases e1 : gg n s with
  | false =>
    have HF : Hid (X = false) := by rw [HX.out, Bool.eq_false_iff, ne_eq, HI2.out]; exact fun h => (by rw [e1] at h; exact absurd h.1 (by simp))
    rw [e1] at hG
    clear e1
    unfold gV at hG
    go_enter Tryz.func87, Tryz.ntmps87
    go_wp2_with fail
    refine (hG _).mono ?_; rintro e w1 ⟨rfl, k1⟩
    have K1 : Kp w w1 := ((Kp.refl w).alloc _).trans k1
    clear hG k1
    go_wp2
    go_ret
    exact ⟨by rw [HF.out]; rfl, K1⟩
  | true =>
  rw [e1] at hG
  have HG : Hid (gg n s = true) := e1
  clear e1
  unfold gV at hG
  by_cases he1 : 1 ≤ ep
  case neg =>
    have HF : Hid (X = false) := by rw [HX.out, Bool.eq_false_iff, ne_eq, HI2.out]; exact fun h => he1 h.2.1
    go_enter Tryz.func87, Tryz.ntmps87
    go_wp2_with fail
    refine (hG _).mono ?_; rintro e w1 ⟨rfl, k1⟩
    have c0 : w1.cell? ⟨w.heap.size, 0, none⟩ = some (.int .i64 n) := k1.held (by simp)
    have c1 : w1.cell? ⟨w.heap.size, 1, none⟩ = some (.int .i64 s) := k1.held (by simp)
    have c2 : w1.cell? ⟨w.heap.size, 2, none⟩ = some (.int .i64 ep) := k1.held (by simp)
    have c3 : w1.cell? ⟨w.heap.size, 3, none⟩ = some (.slice a1 N1 p1) := k1.held (by simp)
    have c4 : w1.cell? ⟨w.heap.size, 4, none⟩ = some (.slice a2 N2 p2) := k1.held (by simp)
    have K1 : Kp w w1 := ((Kp.refl w).alloc _).trans k1
    clear hG k1
    go_wp2
    go_ret
    exact ⟨by rw [HF.out]; rfl, K1⟩
  by_cases he2 : ep ≤ 9007199254740992
  case neg =>
    have HF : Hid (X = false) := by rw [HX.out, Bool.eq_false_iff, ne_eq, HI2.out]; exact fun h => he2 h.2.2.1
    go_enter Tryz.func87, Tryz.ntmps87
    go_wp2_with fail
    refine (hG _).mono ?_; rintro e w1 ⟨rfl, k1⟩
    have c0 : w1.cell? ⟨w.heap.size, 0, none⟩ = some (.int .i64 n) := k1.held (by simp)
    have c1 : w1.cell? ⟨w.heap.size, 1, none⟩ = some (.int .i64 s) := k1.held (by simp)
    have c2 : w1.cell? ⟨w.heap.size, 2, none⟩ = some (.int .i64 ep) := k1.held (by simp)
    have c3 : w1.cell? ⟨w.heap.size, 3, none⟩ = some (.slice a1 N1 p1) := k1.held (by simp)
    have c4 : w1.cell? ⟨w.heap.size, 4, none⟩ = some (.slice a2 N2 p2) := k1.held (by simp)
    have K1 : Kp w w1 := ((Kp.refl w).alloc _).trans k1
    clear hG k1
    go_wp2
    go_ret
    exact ⟨by rw [HF.out]; rfl, K1⟩
  by_cases hl1 : (N1 : Int) = n
  case neg =>
    have HF : Hid (X = false) := by rw [HX.out, Bool.eq_false_iff, ne_eq, HI2.out]; exact fun h => hl1 h.2.2.2.1
    have hb1 : ((N1 : Int) != n) = true := by simpa using hl1
    clear hl1
    go_enter Tryz.func87, Tryz.ntmps87
    go_wp2_with fail
    refine (hG _).mono ?_; rintro e w1 ⟨rfl, k1⟩
    have c0 : w1.cell? ⟨w.heap.size, 0, none⟩ = some (.int .i64 n) := k1.held (by simp)
    have c1 : w1.cell? ⟨w.heap.size, 1, none⟩ = some (.int .i64 s) := k1.held (by simp)
    have c2 : w1.cell? ⟨w.heap.size, 2, none⟩ = some (.int .i64 ep) := k1.held (by simp)
    have c3 : w1.cell? ⟨w.heap.size, 3, none⟩ = some (.slice a1 N1 p1) := k1.held (by simp)
    have c4 : w1.cell? ⟨w.heap.size, 4, none⟩ = some (.slice a2 N2 p2) := k1.held (by simp)
    have K1 : Kp w w1 := ((Kp.refl w).alloc _).trans k1
    clear hG k1
    go_wp2
    go_ret
    exact ⟨by rw [HF.out]; rfl, K1⟩
  have hb1 : ((N1 : Int) != n) = false := by simpa using hl1
  have HL1 : Hid ((N1 : Int) = n) := hl1
  clear hl1
  by_cases hl2 : (N2 : Int) = n
  case neg =>
    have HF : Hid (X = false) := by rw [HX.out, Bool.eq_false_iff, ne_eq, HI2.out]; exact fun h => hl2 h.2.2.2.2.1
    have hb2 : ((N2 : Int) != n) = true := by simpa using hl2
    clear hl2
    go_enter Tryz.func87, Tryz.ntmps87
    go_wp2_with fail
    refine (hG _).mono ?_; rintro e w1 ⟨rfl, k1⟩
    have c0 : w1.cell? ⟨w.heap.size, 0, none⟩ = some (.int .i64 n) := k1.held (by simp)
    have c1 : w1.cell? ⟨w.heap.size, 1, none⟩ = some (.int .i64 s) := k1.held (by simp)
    have c2 : w1.cell? ⟨w.heap.size, 2, none⟩ = some (.int .i64 ep) := k1.held (by simp)
    have c3 : w1.cell? ⟨w.heap.size, 3, none⟩ = some (.slice a1 N1 p1) := k1.held (by simp)
    have c4 : w1.cell? ⟨w.heap.size, 4, none⟩ = some (.slice a2 N2 p2) := k1.held (by simp)
    have K1 : Kp w w1 := ((Kp.refl w).alloc _).trans k1
    clear hG k1
    go_wp2
    go_ret
    exact ⟨by rw [HF.out]; rfl, K1⟩
  have hb2 : ((N2 : Int) != n) = false := by simpa using hl2
  have HL2 : Hid ((N2 : Int) = n) := hl2
  have h12 : N2 = N1 := by have := HL1.out; omega
  have HM : Hid (X = mg ⟨n, s, ep, sts, mks⟩ N1) := by
    show X = _
    rw [HX.out]
    cases e : mg ⟨n, s, ep, sts, mks⟩ N1 with
    | true => exact HI2.out.2 ⟨HG.out, he1, he2, HL1.out, hl2, e⟩
    | false => rw [Bool.eq_false_iff, ne_eq, HI2.out]; exact fun h => (by rw [e] at h; exact absurd h.2.2.2.2.2 (by simp))
  rw [h12] at hb2 i2 ⊢
  have g3 : 1 ≤ s := ((gg_iff _ _).1 HG.out).2.2.1
  have HN2b : Hid (N1 = mks.length) := by rw [← h12]; exact HN2.out
  clear hl2 HX HI2 HG HL2 HL1 h12 HN2
  go_enter Tryz.func87, Tryz.ntmps87
  go_wp2_with fail
  refine (hG _).mono ?_; rintro e w1 ⟨rfl, k1⟩
  have c0 : w1.cell? ⟨w.heap.size, 0, none⟩ = some (.int .i64 n) := k1.held (by simp)
  have c1 : w1.cell? ⟨w.heap.size, 1, none⟩ = some (.int .i64 s) := k1.held (by simp)
  have c2 : w1.cell? ⟨w.heap.size, 2, none⟩ = some (.int .i64 ep) := k1.held (by simp)
  have c3 : w1.cell? ⟨w.heap.size, 3, none⟩ = some (.slice a1 N1 p1) := k1.held (by simp)
  have c4 : w1.cell? ⟨w.heap.size, 4, none⟩ = some (.slice a2 N1 p2) := k1.held (by simp)
  have K1 : Kp w w1 := ((Kp.refl w).alloc _).trans k1
  clear hG k1
  have hLc : Lc w1 w.heap.size n s ep (.slice a1 N1 p1) (.slice a2 N1 p2) := ⟨c0, c1, c2, c3, c4⟩
  have HLc : Hid (Lc w1 w.heap.size n s ep (.slice a1 N1 p1) (.slice a2 N1 p2)) := hLc
  have hbw : w.heap.size < w1.heap.size := World.block_lt_of_cell? _ _ c0
  clear hLc
  go_wp2
  clear c0 c1 c2 c3 c4
  go_loopw [4] (fun i wr => ∃ k : Nat, k ≤ N1 ∧ i = .int .i64 k ∧ Hid (mg ⟨n, s, ep, sts, mks⟩ k = true) ∧ Kp w1 wr) (fun i _ => N1 - (intOf i).toNat)
  case atStart => exact ⟨0, Nat.zero_le _, rfl, HZ.out, Kp.refl w1⟩
  case round =>
    obtain ⟨k, hk, rfl, HK, hK⟩ := hrel
    obtain ⟨c0, c1, c2, c3, c4⟩ := HLc.out.kept hK
    by_cases hlt : k < N1
    · obtain rfl := i1 (by omega)
      obtain rfl := i2 (by omega)
      have d1 := (K1.trans hK).held (HA1.out.c k (by rw [← HN1.out]; exact hlt))
      have d2 := (K1.trans hK).held (HA2.out.c k (by rw [← HN2b.out]; omega))
      have hS := HS.out k HK.out
      obtain ⟨x, hx⟩ : ∃ x, x = sts.getD k 0 := ⟨_, rfl⟩
      obtain ⟨y, hy⟩ : ∃ y, y = mks.getD k 0 := ⟨_, rfl⟩
      rw [← hx] at d1 hS
      rw [← hy] at d2 hS
      have HSk : Hid (mg ⟨n, s, ep, sts, mks⟩ (k + 1) = mh x y s) := hS
      clear hx hy hS HK
      by_cases q1 : 0 ≤ x
      case neg =>
        have HF : Hid (X = false) := by
          rw [HM.out]
          refine HN.out (k + 1) N1 ?_ (by omega)
          rw [HSk.out, Bool.eq_false_iff, ne_eq]
          intro hm
          have hbd := mh_bd hm g3
          omega
        have r1 : decide (x < 0) = true := decide_eq_true (by omega)
        clear q1
        go_wp2_with fail
        go_quiet (fail)
        go_wp2
        go_ret
        exact ⟨by rw [HF.out]; rfl, K1.trans (hK.drewN _)⟩
      have r1 : decide (x < 0) = false := decide_eq_false (by omega)
      by_cases q2 : x ≤ 2
      case neg =>
        have HF : Hid (X = false) := by
          rw [HM.out]
          refine HN.out (k + 1) N1 ?_ (by omega)
          rw [HSk.out, Bool.eq_false_iff, ne_eq]
          intro hm
          have hbd := mh_bd hm g3
          omega
        have r2 : decide (2 < x) = true := decide_eq_true (by omega)
        clear q2
        go_wp2_with fail
        go_quiet (fail)
        go_wp2
        go_ret
        exact ⟨by rw [HF.out]; rfl, K1.trans (hK.drewN _)⟩
      have r2 : decide (2 < x) = false := decide_eq_false (by omega)
      by_cases q3 : 0 ≤ y
      case neg =>
        have HF : Hid (X = false) := by
          rw [HM.out]
          refine HN.out (k + 1) N1 ?_ (by omega)
          rw [HSk.out, Bool.eq_false_iff, ne_eq]
          intro hm
          have hbd := mh_bd hm g3
          omega
        have r3 : decide (y < 0) = true := decide_eq_true (by omega)
        clear q3
        go_wp2_with fail
        go_quiet (fail)
        go_wp2
        go_ret
        exact ⟨by rw [HF.out]; rfl, K1.trans (hK.drewN _)⟩
      have r3 : decide (y < 0) = false := decide_eq_false (by omega)
      by_cases q4 : y < s
      case neg =>
        have HF : Hid (X = false) := by
          rw [HM.out]
          refine HN.out (k + 1) N1 ?_ (by omega)
          rw [HSk.out, Bool.eq_false_iff, ne_eq]
          intro hm
          have hbd := mh_bd hm g3
          omega
        have r4 : decide (s ≤ y) = true := decide_eq_true (by omega)
        clear q4
        go_wp2_with fail
        go_quiet (fail)
        go_wp2
        go_ret
        exact ⟨by rw [HF.out]; rfl, K1.trans (hK.drewN _)⟩
      have r4 : decide (s ≤ y) = false := decide_eq_false (by omega)
      by_cases q5 : 0 < y
      · have r5 : decide (0 < y) = true := decide_eq_true q5
        by_cases q6 : x = 2
        · have r6 : (x != 2) = false := by simpa using q6
          have HS2 : Hid (mg ⟨n, s, ep, sts, mks⟩ (k + 1) = true) := by
            show mg _ _ = _
            rw [HSk.out]
            exact mh_of (by omega) (by omega) (by omega) (by omega) (by omega)
          clear q6 q1 q2 q3 q4 q5
          go_wp2_with fail
          go_quiet (fail)
          go_wp2
          go_roundw
          case rel => exact ⟨k + 1, by omega, by go_num, HS2, hK.drewN _⟩
          case measure => simp [intOf]; omega
        · have r6 : (x != 2) = true := by simpa using q6
          have HF : Hid (X = false) := by
            rw [HM.out]
            refine HN.out (k + 1) N1 ?_ (by omega)
            rw [HSk.out, Bool.eq_false_iff, ne_eq]
            intro hm
            have hbd := mh_bd hm g3
            omega
          clear q6 q1 q2 q3 q4 q5
          go_wp2_with fail
          go_quiet (fail)
          go_wp2
          go_ret
          exact ⟨by rw [HF.out]; rfl, K1.trans (hK.drewN _)⟩
      · have r5 : decide (0 < y) = false := decide_eq_false q5
        have HS2 : Hid (mg ⟨n, s, ep, sts, mks⟩ (k + 1) = true) := by
          show mg _ _ = _
          rw [HSk.out]
          exact mh_of (by omega) (by omega) (by omega) (by omega) (by omega)
        clear q1 q2 q3 q4 q5
        go_wp2_with fail
        go_quiet (fail)
        go_wp2
        go_roundw
        case rel => exact ⟨k + 1, by omega, by go_num, HS2, hK.drewN _⟩
        case measure => simp [intOf]; omega
    · obtain rfl : k = N1 := by omega
      have HF : Hid (X = true) := by rw [HM.out]; exact HK.out
      go_wp2
      go_ret
      exact ⟨by rw [HF.out]; rfl, K1.trans hK⟩

end Go.Proofs.YtonooelffokfkaaGreatDoor

namespace Go.Proofs.YtonooelffokfkaaGreatDoor
open Go.RowKit Plain
set_option linter.unusedVariables false

theorem Byt.congr {W : World} {B n : Nat} {f g : Nat → Nat} (h : Byt W B n f) (he : ∀ i, i < n → f i = g i) : Byt W B n g :=
  ⟨fun i hi => by rw [← he i hi]; exact h.cell i hi, h.free⟩
theorem Byt.lt {W : World} {B n : Nat} {f : Nat → Nat} (h : Byt W B n f) (h0 : 0 < n) : B < W.heap.size := World.block_lt_of_cell? _ _ (h.cell 0 h0)
/-- w' is w with draws, and stores into block b alone. -/
structure Trd (b : Nat) (w w' : World) : Prop where
  block : ∀ k, k ≠ b → w'.heap[k]? = w.heap[k]?
  size : w.heap.size = w'.heap.size
  kp : ∀ W, Kp W w → W.heap.size ≤ b → Kp W w'
theorem Trd.refl (b : Nat) (w : World) : Trd b w w := ⟨fun _ _ => rfl, rfl, fun _ h _ => h⟩
theorem Trd.trans {b : Nat} {w1 w2 w3 : World} (h : Trd b w1 w2) (k : Trd b w2 w3) : Trd b w1 w3 :=
  ⟨fun i hb => (k.block i hb).trans (h.block i hb), h.size.trans k.size, fun W hg hs => k.kp W (h.kp W hg hs) hs⟩
theorem Trd.setCell {b : Nat} {w1 w2 : World} (h : Trd b w1 w2) (o : Nat) (v : Value) : Trd b w1 (w2.setCell ⟨b, o, none⟩ v) :=
  h.trans ⟨fun k hb => Below.heap_setCell _ _ _ _ hb, by simp [World.setCell], fun _ hg hs => Below.setCell hg (p := ⟨b, o, none⟩) hs v⟩
theorem Trd.drew {b : Nat} {w1 w2 : World} (h : Trd b w1 w2) : Trd b w1 w2.drew :=
  h.trans ⟨fun _ _ => rfl, rfl, fun _ hg _ => hg.drew⟩
theorem Trd.held {b : Nat} {w w' : World} (h : Trd b w w') {c o : Nat} {v : Value} (hc : c ≠ b) (hv : w.cell? ⟨c, o, none⟩ = some v) : w'.cell? ⟨c, o, none⟩ = some v := (World.cell?_of_block (w := w) (a := ⟨c, o, none⟩) (h.block c hc)).trans hv
theorem Trd.lc {b c : Nat} {w w' : World} (h : Trd b w w') (hc : c ≠ b) {n s ep : Int} {sv mv : Value} (k : Lc w c n s ep sv mv) : Lc w' c n s ep sv mv := ⟨h.held hc k.c0, h.held hc k.c1, h.held hc k.c2, h.held hc k.c3, h.held hc k.c4⟩
theorem asz (w : World) (o : Obj) : (w.alloc o).heap.size = w.heap.size + 1 := by simp
/-- a label stored at block b. -/
def over (w : World) (b : Nat) (n s ep : Int) (sv mv : Value) : World := ((((w.setCell ⟨b, 0, none⟩ (.int .i64 n)).setCell ⟨b, 1, none⟩ (.int .i64 s)).setCell ⟨b, 2, none⟩ (.int .i64 ep)).setCell ⟨b, 3, none⟩ sv).setCell ⟨b, 4, none⟩ mv
theorem Trd.over {b : Nat} {w1 w : World} (h : Trd b w1 w) (n s ep : Int) (sv mv : Value) : Trd b w1 (over w b n s ep sv mv) := ((((h.setCell 0 _).setCell 1 _).setCell 2 _).setCell 3 _).setCell 4 _
theorem set_other (w : World) (b o o' : Nat) (v : Value) (h : o' ≠ o) : (w.setCell ⟨b, o, none⟩ v).cell? ⟨b, o', none⟩ = w.cell? ⟨b, o', none⟩ :=
  World.cell?_setCell_other w ⟨b, o, none⟩ ⟨b, o', none⟩ v (fun hh => h (by have := congrArg Addr.off hh; simp at this; omega))
theorem set_same {w : World} {b o : Nat} {u : Value} (v : Value) (h : w.cell? ⟨b, o, none⟩ = some u) : (w.setCell ⟨b, o, none⟩ v).cell? ⟨b, o, none⟩ = some v := World.cell?_setCell_same' _ _ _ (by rw [h]; rfl)
theorem Lc.set0 {w : World} {b : Nat} {n s ep : Int} {sv mv : Value} (h : Lc w b n s ep sv mv) (x : Int) : Lc (w.setCell ⟨b, 0, none⟩ (.int .i64 x)) b x s ep sv mv :=
  ⟨set_same _ h.c0, (set_other _ _ _ _ _ (by omega)).trans h.c1, (set_other _ _ _ _ _ (by omega)).trans h.c2, (set_other _ _ _ _ _ (by omega)).trans h.c3, (set_other _ _ _ _ _ (by omega)).trans h.c4⟩
theorem Lc.set1 {w : World} {b : Nat} {n s ep : Int} {sv mv : Value} (h : Lc w b n s ep sv mv) (x : Int) : Lc (w.setCell ⟨b, 1, none⟩ (.int .i64 x)) b n x ep sv mv :=
  ⟨(set_other _ _ _ _ _ (by omega)).trans h.c0, set_same _ h.c1, (set_other _ _ _ _ _ (by omega)).trans h.c2, (set_other _ _ _ _ _ (by omega)).trans h.c3, (set_other _ _ _ _ _ (by omega)).trans h.c4⟩
theorem Lc.set2 {w : World} {b : Nat} {n s ep : Int} {sv mv : Value} (h : Lc w b n s ep sv mv) (x : Int) : Lc (w.setCell ⟨b, 2, none⟩ (.int .i64 x)) b n s x sv mv :=
  ⟨(set_other _ _ _ _ _ (by omega)).trans h.c0, (set_other _ _ _ _ _ (by omega)).trans h.c1, set_same _ h.c2, (set_other _ _ _ _ _ (by omega)).trans h.c3, (set_other _ _ _ _ _ (by omega)).trans h.c4⟩
theorem Lc.set3 {w : World} {b : Nat} {n s ep : Int} {sv mv : Value} (h : Lc w b n s ep sv mv) (x : Value) : Lc (w.setCell ⟨b, 3, none⟩ x) b n s ep x mv :=
  ⟨(set_other _ _ _ _ _ (by omega)).trans h.c0, (set_other _ _ _ _ _ (by omega)).trans h.c1, (set_other _ _ _ _ _ (by omega)).trans h.c2, set_same _ h.c3, (set_other _ _ _ _ _ (by omega)).trans h.c4⟩
theorem Lc.set4 {w : World} {b : Nat} {n s ep : Int} {sv mv : Value} (h : Lc w b n s ep sv mv) (x : Value) : Lc (w.setCell ⟨b, 4, none⟩ x) b n s ep sv x :=
  ⟨(set_other _ _ _ _ _ (by omega)).trans h.c0, (set_other _ _ _ _ _ (by omega)).trans h.c1, (set_other _ _ _ _ _ (by omega)).trans h.c2, (set_other _ _ _ _ _ (by omega)).trans h.c3, set_same _ h.c4⟩
theorem Lc.over {w : World} {b : Nat} {n s ep n2 s2 ep2 : Int} {sv mv sv2 mv2 : Value} (h : Lc w b n s ep sv mv) : Lc (over w b n2 s2 ep2 sv2 mv2) b n2 s2 ep2 sv2 mv2 := ((((h.set0 n2).set1 s2).set2 ep2).set3 sv2).set4 mv2
theorem Trd.fe {b : Nat} {w w' : World} (h : Trd b w w') {e : TypeId} {base : Nat} {v : Value} {n : Nat} {f : Nat → Int} (k : Fe e w base v n f) (hb : v.ownBlock ≠ some b) : Fe e w' base v n f := by
  rcases k.2 with ⟨h', h0⟩ | ⟨g, cap, cur, h', hb', hg, hr⟩
  · exact ⟨k.1, .inl ⟨h', h0⟩⟩
  · subst h'
    exact ⟨k.1, .inr ⟨g, cap, cur, rfl, hb', (h.block g (fun e => hb (by rw [e]; rfl))).trans hg, hr⟩⟩

/-- a row of bytes of the call's own. -/
def Fb (w : World) (base : Nat) (v : Value) (n : Nat) (f : Nat → Nat) : Prop := w.ownsRow base 5 1 v n ((List.range n).map fun i => Value.int .u8 ((f i : Nat) : Int))
theorem Fb.kept {w w' : World} {base : Nat} {v : Value} {n : Nat} {f : Nat → Nat} (h : Fb w base v n f) (k : Kp w w') : Fb w' base v n f := k.own h
theorem Fb.congr {w : World} {base : Nat} {v : Value} {n : Nat} {f g : Nat → Nat} (h : Fb w base v n f) (he : ∀ j, j < n → f j = g j) : Fb w base v n g := by
  have : ((List.range n).map fun i => Value.int .u8 ((g i : Nat) : Int)) = (List.range n).map fun i => Value.int .u8 ((f i : Nat) : Int) := List.map_congr_left fun i hi => by rw [he i (by simpa using hi)]
  unfold Fb
  rw [this]
  exact h
theorem Fb.shape {w : World} {base : Nat} {v : Value} {n : Nat} {f : Nat → Nat} (h : Fb w base v n f) (h0 : 0 < n) : ∃ g cap, v = .slice (some ⟨g, 0, none⟩) n cap ∧ n ≤ cap ∧ cap ≤ 9223372036854775807 ∧ base ≤ g ∧ g < w.heap.size := by
  rcases h.2 with ⟨rfl, rfl⟩ | ⟨g, cap, cur, rfl, hb, hg, hn, hm, _⟩
  · omega
  · unfold maxLen at hm
    exact ⟨g, cap, rfl, hn, by omega, hb, (Array.getElem?_eq_some_iff.1 hg).1⟩
theorem Fb.at {w : World} {base g n cap : Nat} {f : Nat → Nat} (h : Fb w base (.slice (some ⟨g, 0, none⟩) n cap) n f) (j : Nat) (hj : j < n) : w.cell? ⟨g, j, none⟩ = some (.int .u8 ((f j : Nat) : Int)) := by
  rw [World.ownsRow.cellAt h j (by omega)]
  simp [hj]
theorem Fb.made (w : World) (n : Nat) (hn : n ≤ 1000) : Fb (w.alloc (.cells (madeCells #[.int .u8 0] n) 5)) w.heap.size (.slice (some ⟨w.heap.size, 0, none⟩) n n) n (fun _ => 0) := by
  refine ⟨by simp, .inr ⟨w.heap.size, n, _, rfl, Nat.le_refl _, heap_alloc_new w _, Nat.le_refl _, by unfold maxLen; omega, by rw [size_madeCells]; simp, ?_⟩⟩
  apply List.ext_getElem?
  intro i
  by_cases hi : i < n
  · simp [madeCells, hi, Nat.mod_one]
  · simp [madeCells, hi, Nat.mod_one]

end Go.Proofs.YtonooelffokfkaaGreatDoor

namespace Go.Proofs.YtonooelffokfkaaGreatDoor
open Go.RowKit Plain
set_option linter.unusedVariables false

/-- w' is w behind an append to the row v, which is v' now. -/
structure Ap (w w' : World) (v v' : Value) : Prop where
  g : w.grownBy w' v.ownBlock
  own : v'.ownBlock = v.ownBlock ∨ v'.ownBlock = some w.heap.size
theorem Ap.kp {w w' W : World} {v v' : Value} (h : Ap w w' v v') (k : Kp W w) (hb : ∀ b, v.ownBlock = some b → W.heap.size ≤ b) : Kp W w' := k.grown h.g hb
theorem Ap.cell {w w' : World} {v v' : Value} (h : Ap w w' v v') {b o : Nat} {u : Value} (hb : v.ownBlock ≠ some b) (hc : w.cell? ⟨b, o, none⟩ = some u) : w'.cell? ⟨b, o, none⟩ = some u :=
  h.g.cell (a := ⟨b, o, none⟩) hc (fun e => hb e.symm)
theorem Ap.ne {w w' : World} {v v' : Value} (h : Ap w w' v v') {b : Nat} (hb : b < w.heap.size) (hv : v.ownBlock ≠ some b) : v'.ownBlock ≠ some b := by
  rcases h.own with e | e
  · rw [e]; exact hv
  · rw [e]; intro e2; have := Option.some.inj e2; omega
theorem Ap.size {w w' : World} {v v' : Value} (h : Ap w w' v v') : w.heap.size ≤ w'.heap.size := h.g.size
/-- a row of bytes that grows: the call's own, or one that is full. -/
def Fr (w : World) (base : Nat) (v : Value) (n : Nat) (f : Nat → Nat) : Prop := Fb w base v n f ∨ ∃ g, v = .slice (some ⟨g, 0, none⟩) n n ∧ base ≤ g ∧ g < w.heap.size ∧ ∀ j, j < n → w.cell? ⟨g, j, none⟩ = some (.int .u8 ((f j : Nat) : Int))
theorem Fr.kept {w w' : World} {base : Nat} {v : Value} {n : Nat} {f : Nat → Nat} (h : Fr w base v n f) (k : Kp w w') : Fr w' base v n f := by
  rcases h with h | ⟨g, h1, h2, h3, h4⟩
  · exact .inl (h.kept k)
  · exact .inr ⟨g, h1, h2, Nat.lt_of_lt_of_le h3 k.size, fun j hj => k.held (h4 j hj)⟩
theorem Fr.low {w : World} {base : Nat} {v : Value} {n : Nat} {f : Nat → Nat} (h : Fr w base v n f) : ∀ k, v.ownBlock = some k → base ≤ k ∧ k < w.heap.size := by
  rcases h with h | ⟨g, rfl, h2, h3, h4⟩
  · exact fun k hk => World.ownsRow.lt h k hk
  · intro k hk
    obtain rfl : g = k := Option.some.inj hk
    exact ⟨h2, h3⟩
theorem Fr.congr {w : World} {base : Nat} {v : Value} {n : Nat} {f g : Nat → Nat} (h : Fr w base v n f) (he : ∀ j, j < n → f j = g j) : Fr w base v n g := by
  rcases h with h | ⟨b, h1, h2, h3, h4⟩
  · exact .inl (h.congr he)
  · exact .inr ⟨b, h1, h2, h3, fun j hj => by rw [← he j hj]; exact h4 j hj⟩
theorem Fr.len {w : World} {base : Nat} {v : Value} {n : Nat} {f : Nat → Nat} (h : Fr w base v n f) (h0 : 0 < n) : ∃ g cap, v = .slice (some ⟨g, 0, none⟩) n cap := by
  rcases h with h | ⟨b, rfl, h2, h3, h4⟩
  · obtain ⟨g, cap, rfl, _⟩ := h.shape h0
    exact ⟨g, cap, rfl⟩
  · exact ⟨b, n, rfl⟩
theorem Fr.next {w : World} {base : Nat} {v : Value} {n : Nat} {f g : Nat → Nat} {x : Nat} (h : Fr w base v (n + 1) (fun i => if i = n then x else f i)) (h1 : ∀ i, i < n → f i = g i) (h2 : x = g n) : Fr w base v (n + 1) g :=
  h.congr (fun i hi => by
    by_cases e : i = n
    · rw [if_pos e, e, h2]
    · rw [if_neg e]; exact h1 i (by omega))

/-! ### numbers: lists of whole numbers, lists of states -/
structure Ei (t e : TypeId) : Prop where
  u : Tryz.prog.underlying t = some (.slice e)
  i : (Tryz.prog.info? e).map (fun i => (i.zero, i.size, i.bytes)) = some (some (.int .i64 0), 1, 8)
theorem eiI : Ei 22 3 := ⟨Tryz.underlying22, by kernel_rfl⟩
theorem eiS : Ei 28 112 := ⟨Tryz.underlying28, by kernel_rfl⟩
def Oi (e : TypeId) (w : World) (base : Nat) (v : Value) (l : List Int) : Prop := w.ownsRow base e 1 v l.length (l.map (Value.int .i64))
theorem Oi.kept {e : TypeId} {w w' : World} {base : Nat} {v : Value} {l : List Int} (h : Oi e w base v l) (k : Kp w w') : Oi e w' base v l := k.own h
theorem Oi.nil (e : TypeId) (w : World) (base : Nat) : Oi e w base (.slice none 0 0) [] := World.ownsRow_nil _ _ _ _
theorem Oi.fe {e : TypeId} {w : World} {base : Nat} {v : Value} {l : List Int} (h : Oi e w base v l) : Fe e w base v l.length (fun i => l.getD i 0) := by
  have e : ((List.range l.length).map fun i => Value.int .i64 (l.getD i 0)) = l.map (Value.int .i64) := by
    apply List.ext_getElem?
    intro i
    rw [List.getElem?_map, List.getElem?_map]
    by_cases hi : i < l.length
    · rw [List.getElem?_range hi, List.getElem?_eq_getElem hi]
      simp [List.getD_eq_getElem?_getD, hi]
    · rw [List.getElem?_eq_none (by simpa using hi), List.getElem?_eq_none (by omega)]; rfl
  unfold Fe
  rw [e]
  exact h
theorem Oi.nums {e : TypeId} {w : World} {base : Nat} {v : Value} {l : List Int} (h : Oi e w base v l) : Nl w v l := by
  have h1 := h.fe.nums
  rwa [list_of l l.length (fun i => l.getD i 0) rfl (fun i _ => rfl)] at h1
theorem Oi.low {e : TypeId} {w : World} {base : Nat} {v : Value} {l : List Int} (h : Oi e w base v l) : ∀ k, v.ownBlock = some k → base ≤ k ∧ k < w.heap.size := fun k hk => World.ownsRow.lt h k hk
/-- a row of a literal's. -/
theorem Fb.lit {w : World} (base : Nat) (hb : base ≤ w.heap.size) (cs : Array Value) (n : Nat) (hn : n = cs.size) (hm : n ≤ 1000) (f : Nat → Nat) (hc : cs.toList = (List.range n).map fun i => Value.int .u8 ((f i : Nat) : Int)) : Fb (w.alloc (.cells cs 5)) base (.slice (some ⟨w.heap.size, 0, none⟩) n n) n f := by
  refine ⟨by simp, .inr ⟨w.heap.size, n, cs, rfl, hb, heap_alloc_new w _, Nat.le_refl _, by unfold maxLen; omega, by omega, ?_⟩⟩
  rw [← hc, hn, Nat.mul_one, ← Array.length_toList, List.take_length]
theorem Fb.low {w : World} {base : Nat} {v : Value} {n : Nat} {f : Nat → Nat} (h : Fb w base v n f) : ∀ k, v.ownBlock = some k → base ≤ k ∧ k < w.heap.size := fun k hk => World.ownsRow.lt h k hk

end Go.Proofs.YtonooelffokfkaaGreatDoor

namespace Go.Proofs.YtonooelffokfkaaGreatDoor
open Go.RowKit Plain
set_option linter.unusedVariables false

theorem blank_end (w : World) (o : Obj) (n s ep : Int) (sv mv : Value) (t e1 e2 : TypeId) (N : Nat) (hN : N ≤ 32) :
    Lc ((((w.alloc o).alloc (.cells #[.int .i64 n, .int .i64 s, .int .i64 ep, sv, mv] t)).alloc (.cells (madeCells #[.int .i64 0] N) e1)).alloc (.cells (madeCells #[.int .i64 0] N) e2)).drew (w.heap.size + 1) n s ep sv mv ∧
    Fe e1 ((((w.alloc o).alloc (.cells #[.int .i64 n, .int .i64 s, .int .i64 ep, sv, mv] t)).alloc (.cells (madeCells #[.int .i64 0] N) e1)).alloc (.cells (madeCells #[.int .i64 0] N) e2)).drew w.heap.size (.slice (some ⟨w.heap.size + 1 + 1, 0, none⟩) N N) N (fun _ => 0) ∧
    Fe e2 ((((w.alloc o).alloc (.cells #[.int .i64 n, .int .i64 s, .int .i64 ep, sv, mv] t)).alloc (.cells (madeCells #[.int .i64 0] N) e1)).alloc (.cells (madeCells #[.int .i64 0] N) e2)).drew w.heap.size (.slice (some ⟨w.heap.size + 1 + 1 + 1, 0, none⟩) N N) N (fun _ => 0) ∧
    Kp w ((((w.alloc o).alloc (.cells #[.int .i64 n, .int .i64 s, .int .i64 ep, sv, mv] t)).alloc (.cells (madeCells #[.int .i64 0] N) e1)).alloc (.cells (madeCells #[.int .i64 0] N) e2)).drew := by
  have h1 := Lc.new (w.alloc o) n s ep sv mv t
  have h2 := Fe.made e1 ((w.alloc o).alloc (.cells #[.int .i64 n, .int .i64 s, .int .i64 ep, sv, mv] t)) N (by omega)
  have h3 := Fe.made e2 (((w.alloc o).alloc (.cells #[.int .i64 n, .int .i64 s, .int .i64 ep, sv, mv] t)).alloc (.cells (madeCells #[.int .i64 0] N) e1)) N (by omega)
  simp only [asz] at h1 h2 h3
  refine ⟨h1.kept (((Kp.refl _).alloc _).alloc _).drew, (h2.kept ((Kp.refl _).alloc _).drew).mono (by omega), (h3.kept (Kp.refl _).drew).mono (by omega), ((((Kp.refl w).alloc _).alloc _).alloc _).alloc _ |>.drew⟩
set_option maxRecDepth 100000 in
set_option maxHeartbeats 2000000 in
theorem blank_anyL9 (N : Nat) (s : Int) (w : World) (hN : N ≤ 32) : Calls Tryz.prog 80 #[gV N s] w fun e w' => ∃ b1 b2, e = .returned (lV N s 0 (.slice (some ⟨b1, 0, none⟩) N N) (.slice (some ⟨b2, 0, none⟩) N N)) ∧ b1 ≠ b2 ∧ Fe 112 w' w.heap.size (.slice (some ⟨b1, 0, none⟩) N N) N (fun _ => 0) ∧ Fe 3 w' w.heap.size (.slice (some ⟨b2, 0, none⟩) N N) N (fun _ => 0) ∧ Kp w w' := by
  have hm1 := fun W => run_make_row' (P := Tryz.prog) 28 112 (.int .i64 0) 8 Tryz.underlying28 eiS.i rfl .i64 .i64 N (by omega) (by omega) W
  have hm2 := fun W => run_make_row' (P := Tryz.prog) 22 3 (.int .i64 0) 8 Tryz.underlying22 eiI.i rfl .i64 .i64 N (by omega) (by omega) W
  unfold gV
  go_enter Tryz.func80, Tryz.ntmps80
  go_wp2_with fail
  go_region
  all_goals (go_wp2)
  · obtain ⟨q1, q2, q3, q4⟩ := blank_end w (.cells #[.int .i64 N, .int .i64 s] 27) N s 0 (.slice (some ⟨w.heap.size + 1 + 1, 0, none⟩) N N) (.slice (some ⟨w.heap.size + 1 + 1 + 1, 0, none⟩) N N) 30 112 3 N hN
    refine bodyPost_ret (results_lb rfl _ _ (w.heap.size + 1) rfl q1) rfl ?_
    exact ⟨_, _, rfl, by omega, q2, q3, q4⟩
  · obtain ⟨q1, q2, q3, q4⟩ := blank_end w (.cells #[.int .i64 N, .int .i64 s] 27) N s 0 (.slice (some ⟨w.heap.size + 1 + 1 + 1, 0, none⟩) N N) (.slice (some ⟨w.heap.size + 1 + 1, 0, none⟩) N N) 30 3 112 N hN
    refine bodyPost_ret (results_lb rfl _ _ (w.heap.size + 1) rfl q1) rfl ?_
    exact ⟨_, _, rfl, by omega, q3, q2, q4⟩

end Go.Proofs.YtonooelffokfkaaGreatDoor

namespace Go.Proofs.YtonooelffokfkaaGreatDoor
open Go.RowKit Plain
set_option linter.unusedVariables false

theorem wh_no {L : LB} {m t : Int} (h : ¬ (lg L = true ∧ (0 ≤ m ∧ m < L.n) ∧ 0 ≤ t ∧ t < L.s)) : wh L m t = false := by
  rw [Bool.eq_false_iff, ne_eq]
  intro hh
  apply h
  unfold wh at hh
  simp only [Bool.and_eq_true, decide_eq_true_eq] at hh
  exact ⟨hh.1.1.1, hh.1.1.2, hh.1.2⟩
theorem wh_in {L : LB} {m t : Int} (h1 : lg L = true) (h2 : 0 ≤ m ∧ m < L.n) (h3 : 0 ≤ t ∧ t < L.s) : wh L m t = (decide (L.sts.getD m.toNat 0 = 0) || (decide (L.sts.getD m.toNat 0 = 2) && decide (t < L.mks.getD m.toNat 0))) := by
  unfold wh
  rw [h1, decide_eq_true h2, decide_eq_true h3]
  rfl
theorem col_in {n s t m : Int} (h : gg n s = true) (h2 : (0 ≤ t ∧ t < s) ∧ 0 ≤ m ∧ m < n) : col n s t m = (cM n t m, 0) := (if_pos h).trans (if_pos h2)
theorem col_out {n s t m : Int} (h : gg n s = true) (h2 : ¬ ((0 ≤ t ∧ t < s) ∧ 0 ≤ m ∧ m < n)) : col n s t m = (0, 3) := (if_pos h).trans (if_neg h2)
set_option maxRecDepth 100000 in
set_option maxHeartbeats 2000000 in
theorem lwhole_any (L : LB) (sv mv : Value) (m t : Int) (w : World) (h1 : Nl w sv L.sts) (h2 : Nl w mv L.mks) : Calls Tryz.prog 44 #[lV L.n L.s L.ep sv mv, .int .i64 m, .int .i64 t] w fun e w' => e = .returned (.bool (wh L m t)) ∧ Kp w w' := by
  have hG := fun w' (k : Kp w w') => lgood_any L sv mv w' (h1.kept k) (h2.kept k)
  obtain ⟨a1, g1, o1, p1, rfl, A1⟩ := h1
  obtain ⟨a2, g2, o2, p2, rfl, A2⟩ := h2
  have HN := @wh_no L m t
  have HI := @wh_in L m t
  have HL := @lg_gl L
  have HG2 : lg L = true → gg L.n L.s = true := fun h => ((lg_iff L).1 h).1
  obtain ⟨X, eX⟩ : ∃ X, X = wh L m t := ⟨_, rfl⟩
  rw [← eX] at HN HI ⊢
  clear eX
  obtain ⟨n, s, ep, sts, mks⟩ := L
  simp only at *
  obtain ⟨N1, hN1⟩ : ∃ N, N = sts.length := ⟨_, rfl⟩
  obtain ⟨N2, hN2⟩ : ∃ N, N = mks.length := ⟨_, rfl⟩
  rw [← hN1] at hG ⊢
  rw [← hN2] at hG ⊢
  unfold lV at hG ⊢
  cases e1 : lg ⟨n, s, ep, sts, mks⟩ with
  | false =>
    have HF : Hid (X = false) := HN (fun h => by rw [e1] at h; exact absurd h.1 (by simp))
    rw [e1] at hG
    clear HN HI HL HG2 e1 A1 A2 hN1 hN2
    go_enter Tryz.func44, Tryz.ntmps44
    go_wp2_with fail
    refine (hG _ ((Kp.refl w).alloc _)).mono ?_; rintro e w1 ⟨rfl, k1⟩
    obtain ⟨c0, c1, c2, c3, c4⟩ := (Lc.new w n s ep _ _ 30).kept k1
    have K1 : Kp w w1 := ((Kp.refl w).alloc _).trans k1
    clear hG k1
    go_wp2
    go_ret
    exact ⟨by rw [HF.out]; rfl, K1⟩
  | true =>
  rw [e1] at hG
  have hgg := HG2 e1
  have hL := HL e1
  have l1 := hL.l1
  have l2 := hL.l2
  have n1 := hL.n1
  have n2 := hL.n2
  simp only at l1 l2 n1 n2
  by_cases hr : (0 ≤ m ∧ m < n) ∧ 0 ≤ t ∧ t < s
  case neg =>
    have HF : Hid (X = false) := HN (fun h => hr h.2)
    clear HN HI HL HG2 e1 A1 A2 hN1 hN2 hL
    have hC := fun w' => column_any n s t m w'
    rw [col_out hgg (fun h => hr ⟨h.2, h.1⟩)] at hC
    unfold pT gV at hC
    clear hr hgg
    go_enter Tryz.func44, Tryz.ntmps44
    go_wp2_with fail
    refine (hG _ ((Kp.refl w).alloc _)).mono ?_; rintro e w1 ⟨rfl, k1⟩
    obtain ⟨c0, c1, c2, c3, c4⟩ := (Lc.new w n s ep _ _ 30).kept k1
    have K1 : Kp w w1 := ((Kp.refl w).alloc _).trans k1
    clear hG k1
    go_wp2_with fail
    refine (hC _).mono ?_; rintro e w2 ⟨rfl, k2⟩
    have K2 := K1.trans k2
    clear hC k2 c0 c1 c2 c3 c4 K1
    go_wp2
    go_ret
    exact ⟨by rw [HF.out]; rfl, K2⟩
  have hX := HI e1 hr.1 hr.2
  obtain ⟨⟨r1, r2⟩, r3, r4⟩ := hr
  obtain ⟨M, rfl⟩ : ∃ M : Nat, m = M := ⟨m.toNat, by omega⟩
  rw [Int.toNat_natCast] at hX
  have hM1 : M < N1 := by omega
  have hM2 : M < N2 := by omega
  obtain rfl := A1.ha (by omega)
  obtain rfl := A2.ha (by omega)
  have x0 := A1.c M (by omega)
  have y0 := A2.c M (by omega)
  obtain ⟨x, hx⟩ : ∃ x, x = sts.getD M 0 := ⟨_, rfl⟩
  obtain ⟨y, hy⟩ : ∃ y, y = mks.getD M 0 := ⟨_, rfl⟩
  rw [← hx] at x0 hX
  rw [← hy] at y0 hX
  have HX := hX
  have HXh : Hid (X = (decide (x = 0) || (decide (x = 2) && decide (t < y)))) := hX
  have hC := fun w' => column_any n s t (M : Int) w'
  rw [col_in hgg ⟨⟨r3, r4⟩, r1, r2⟩] at hC
  unfold pT gV at hC
  obtain ⟨cm, ecm⟩ : ∃ c, c = cM n t M := ⟨_, rfl⟩
  rw [← ecm] at hC
  clear ecm
  have HLN : Hid ((M : Int) < n) := r2
  clear HN HI HL HG2 e1 A1 A2 hN1 hN2 hL hx hy hX HX hgg l1 l2
  go_enter Tryz.func44, Tryz.ntmps44
  go_wp2_with fail
  refine (hG _ ((Kp.refl w).alloc _)).mono ?_; rintro e w1 ⟨rfl, k1⟩
  obtain ⟨c0, c1, c2, c3, c4⟩ := (Lc.new w n s ep _ _ 30).kept k1
  have K1 : Kp w w1 := ((Kp.refl w).alloc _).trans k1
  clear hG k1
  go_wp2_with fail
  refine (hC _).mono ?_; rintro e w2 ⟨rfl, k2⟩
  have K2 := K1.trans k2
  have d0 := K2.held x0
  have d1 := K2.held y0
  have e0 := k2.held c0
  have e1 := k2.held c1
  have e2 := k2.held c2
  have e3 := k2.held c3
  have e4 := k2.held c4
  clear hC k2 c0 c1 c2 c3 c4 K1 x0 y0
  by_cases q1 : x = 0
  · have HF : Hid (X = true) := by rw [HXh.out, decide_eq_true q1]; rfl
    have b1 : (x == 0) = true := beq_iff_eq.2 q1
    clear q1
    go_wp2
    go_ret
    exact ⟨by rw [HF.out]; rfl, K2⟩
  · have b1 : (x == 0) = false := beq_eq_false_iff_ne.2 q1
    by_cases q2 : x = 2
    · have HF : Hid (X = decide (t < y)) := by show X = _; rw [HXh.out, decide_eq_false q1, decide_eq_true q2]; simp
      have b2 : (x == 2) = true := beq_iff_eq.2 q2
      clear q1 q2
      go_wp2
      go_ret
      exact ⟨by rw [HF.out]; rfl, K2⟩
    · have HF : Hid (X = false) := by show X = _; rw [HXh.out, decide_eq_false q1, decide_eq_false q2]; rfl
      have b2 : (x == 2) = false := beq_eq_false_iff_ne.2 q2
      clear q1 q2
      go_wp2
      go_ret
      exact ⟨by rw [HF.out]; rfl, K2⟩
set_option maxRecDepth 100000 in
set_option maxHeartbeats 2000000 in
theorem rwhole_any (L : LB) (sv mv : Value) (m t : Int) (w : World) (h1 : Nl w sv L.sts) (h2 : Nl w mv L.mks) : Calls Tryz.prog 46 #[lV L.n L.s L.ep sv mv, .int .i64 m, .int .i64 t] w fun e w' => e = .returned (.bool (wh L m t)) ∧ Kp w w' := by
  have hG := fun w' (k : Kp w w') => rlgood_any L sv mv w' (h1.kept k) (h2.kept k)
  obtain ⟨a1, g1, o1, p1, rfl, A1⟩ := h1
  obtain ⟨a2, g2, o2, p2, rfl, A2⟩ := h2
  have HN := @wh_no L m t
  have HI := @wh_in L m t
  have HL := @lg_gl L
  have HG2 : lg L = true → gg L.n L.s = true := fun h => ((lg_iff L).1 h).1
  obtain ⟨X, eX⟩ : ∃ X, X = wh L m t := ⟨_, rfl⟩
  rw [← eX] at HN HI ⊢
  clear eX
  obtain ⟨n, s, ep, sts, mks⟩ := L
  simp only at *
  obtain ⟨N1, hN1⟩ : ∃ N, N = sts.length := ⟨_, rfl⟩
  obtain ⟨N2, hN2⟩ : ∃ N, N = mks.length := ⟨_, rfl⟩
  rw [← hN1] at hG ⊢
  rw [← hN2] at hG ⊢
  unfold lV at hG ⊢
  cases e1 : lg ⟨n, s, ep, sts, mks⟩ with
  | false =>
    have HF : Hid (X = false) := HN (fun h => by rw [e1] at h; exact absurd h.1 (by simp))
    rw [e1] at hG
    clear HN HI HL HG2 e1 A1 A2 hN1 hN2
    go_enter Tryz.func46, Tryz.ntmps46
    go_wp2_with fail
    refine (hG _ ((Kp.refl w).alloc _)).mono ?_; rintro e w1 ⟨rfl, k1⟩
    obtain ⟨c0, c1, c2, c3, c4⟩ := (Lc.new w n s ep _ _ 33).kept k1
    have K1 : Kp w w1 := ((Kp.refl w).alloc _).trans k1
    clear hG k1
    go_wp2
    go_ret
    exact ⟨by rw [HF.out]; rfl, K1⟩
  | true =>
  rw [e1] at hG
  have hgg := HG2 e1
  have hL := HL e1
  have l1 := hL.l1
  have l2 := hL.l2
  have n1 := hL.n1
  have n2 := hL.n2
  simp only at l1 l2 n1 n2
  by_cases hr : (0 ≤ m ∧ m < n) ∧ 0 ≤ t ∧ t < s
  case neg =>
    have HF : Hid (X = false) := HN (fun h => hr h.2)
    clear HN HI HL HG2 e1 A1 A2 hN1 hN2 hL
    clear hgg
    by_cases q1 : 0 ≤ m
    case neg =>
      clear hr
      go_enter Tryz.func46, Tryz.ntmps46
      go_wp2_with fail
      refine (hG _ ((Kp.refl w).alloc _)).mono ?_; rintro e w1 ⟨rfl, k1⟩
      obtain ⟨c0, c1, c2, c3, c4⟩ := (Lc.new w n s ep _ _ 33).kept k1
      have K1 : Kp w w1 := ((Kp.refl w).alloc _).trans k1
      clear hG k1
      go_wp2
      go_ret
      exact ⟨by rw [HF.out]; rfl, K1⟩
    by_cases q2 : m < n
    case neg =>
      clear hr
      go_enter Tryz.func46, Tryz.ntmps46
      go_wp2_with fail
      refine (hG _ ((Kp.refl w).alloc _)).mono ?_; rintro e w1 ⟨rfl, k1⟩
      obtain ⟨c0, c1, c2, c3, c4⟩ := (Lc.new w n s ep _ _ 33).kept k1
      have K1 : Kp w w1 := ((Kp.refl w).alloc _).trans k1
      clear hG k1
      go_wp2
      go_ret
      exact ⟨by rw [HF.out]; rfl, K1⟩
    by_cases q3 : 0 ≤ t
    case neg =>
      clear hr
      go_enter Tryz.func46, Tryz.ntmps46
      go_wp2_with fail
      refine (hG _ ((Kp.refl w).alloc _)).mono ?_; rintro e w1 ⟨rfl, k1⟩
      obtain ⟨c0, c1, c2, c3, c4⟩ := (Lc.new w n s ep _ _ 33).kept k1
      have K1 : Kp w w1 := ((Kp.refl w).alloc _).trans k1
      clear hG k1
      go_wp2
      go_ret
      exact ⟨by rw [HF.out]; rfl, K1⟩
    have q4 : ¬ t < s := fun h => hr ⟨⟨q1, q2⟩, q3, h⟩
    clear hr
    go_enter Tryz.func46, Tryz.ntmps46
    go_wp2_with fail
    refine (hG _ ((Kp.refl w).alloc _)).mono ?_; rintro e w1 ⟨rfl, k1⟩
    obtain ⟨c0, c1, c2, c3, c4⟩ := (Lc.new w n s ep _ _ 33).kept k1
    have K1 : Kp w w1 := ((Kp.refl w).alloc _).trans k1
    clear hG k1
    go_wp2
    go_ret
    exact ⟨by rw [HF.out]; rfl, K1⟩
  have hX := HI e1 hr.1 hr.2
  obtain ⟨⟨r1, r2⟩, r3, r4⟩ := hr
  obtain ⟨M, rfl⟩ : ∃ M : Nat, m = M := ⟨m.toNat, by omega⟩
  rw [Int.toNat_natCast] at hX
  have hM1 : M < N1 := by omega
  have hM2 : M < N2 := by omega
  obtain rfl := A1.ha (by omega)
  obtain rfl := A2.ha (by omega)
  have x0 := A1.c M (by omega)
  have y0 := A2.c M (by omega)
  obtain ⟨x, hx⟩ : ∃ x, x = sts.getD M 0 := ⟨_, rfl⟩
  obtain ⟨y, hy⟩ : ∃ y, y = mks.getD M 0 := ⟨_, rfl⟩
  rw [← hx] at x0 hX
  rw [← hy] at y0 hX
  have HX := hX
  have HXh : Hid (X = (decide (x = 0) || (decide (x = 2) && decide (t < y)))) := hX
  have HLN : Hid ((M : Int) < n) := r2
  clear HN HI HL HG2 e1 A1 A2 hN1 hN2 hL hx hy hX HX hgg l1 l2
  go_enter Tryz.func46, Tryz.ntmps46
  go_wp2_with fail
  refine (hG _ ((Kp.refl w).alloc _)).mono ?_; rintro e w1 ⟨rfl, k1⟩
  obtain ⟨c0, c1, c2, c3, c4⟩ := (Lc.new w n s ep _ _ 33).kept k1
  have K1 : Kp w w1 := ((Kp.refl w).alloc _).trans k1
  clear hG k1
  have K2 := K1
  have d0 := K1.held x0
  have d1 := K1.held y0
  clear K1 x0 y0
  by_cases q1 : x = 0
  · have HF : Hid (X = true) := by rw [HXh.out, decide_eq_true q1]; rfl
    have b1 : (x == 0) = true := beq_iff_eq.2 q1
    clear q1
    go_wp2
    go_ret
    exact ⟨by rw [HF.out]; rfl, K2⟩
  · have b1 : (x == 0) = false := beq_eq_false_iff_ne.2 q1
    by_cases q2 : x = 2
    · have HF : Hid (X = decide (t < y)) := by show X = _; rw [HXh.out, decide_eq_false q1, decide_eq_true q2]; simp
      have b2 : (x == 2) = true := beq_iff_eq.2 q2
      clear q1 q2
      go_wp2
      go_ret
      exact ⟨by rw [HF.out]; rfl, K2⟩
    · have HF : Hid (X = false) := by show X = _; rw [HXh.out, decide_eq_false q1, decide_eq_false q2]; rfl
      have b2 : (x == 2) = false := beq_eq_false_iff_ne.2 q2
      clear q1 q2
      go_wp2
      go_ret
      exact ⟨by rw [HF.out]; rfl, K2⟩

end Go.Proofs.YtonooelffokfkaaGreatDoor
