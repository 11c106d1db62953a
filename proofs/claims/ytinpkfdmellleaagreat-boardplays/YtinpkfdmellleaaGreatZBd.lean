/-
  A board (layer 17): its state in memory, and its calls. Conditions: that it lies in memory.
-/
import Derived.Test.YtinpkfdmellleaaGreatZBay
import Derived.Test.YtinpkfdmellleaaGreatZGm
import Derived.Test.YtinpkfdmellleaaGreatZLab
import Derived.Laws.OwnMore
import Derived.Deep.QuietTactic
import Derived.BigQuiet
import Derived.Deep.RegionHeld3
namespace Go.Proofs.YtinpkfdmellleaaGreat
open Go.RowKit Plain
set_option linter.unusedVariables false

/-- all members have z sectors. -/
def Ev (B : BS) (z : Nat) : Prop := ∀ i, i < B.ms.length → (B.ms.getD i noM).las.length = z ∧ (B.ms.getD i noM).now.length = z
def ddB (B : BS) (i : Nat) : Bool := (B.ms.getD i noM).dead
/-- a bay fits a geometry. -/
def ftB (B : BS) (n s : Int) : Bool := decide ((B.ms.length : Int) = n ∧ 100 + s ≤ ((B.ms.getD 0 noM).las.length : Int))

/-! ### live members -/
theorem lvL_append : ∀ (L M : List MS) (i : Nat), lvL i (L ++ M) = lvL i L ++ lvL (i + L.length) M
  | [], M, i => by simp [lvL]
  | S :: L, M, i => by
    have ih := lvL_append L M (i + 1)
    rw [List.cons_append]
    simp only [lvL]
    rw [ih, show i + 1 + L.length = i + (S :: L).length by simp; omega]
    split <;> rfl
theorem lvL_pre (L : List MS) (k : Nat) : ∃ r, lvL 0 L = lvL 0 (L.take k) ++ r := ⟨_, by
  conv => lhs; rw [← List.take_append_drop k L]
  rw [lvL_append]⟩
theorem lvL_mem : ∀ (L : List MS) (i x : Nat), x ∈ lvL i L ↔ i ≤ x ∧ x < i + L.length ∧ (L.getD (x - i) noM).dead = false
  | [], i, x => by simp [lvL]; omega
  | S :: L, i, x => by
    have ih := lvL_mem L (i + 1) x
    simp only [lvL]
    by_cases e : x = i
    · subst e
      have h0 : ¬ (x + 1 ≤ x) := by omega
      cases hd : S.dead with
      | true => rw [if_pos rfl, ih]; simp [hd]; omega
      | false => rw [if_neg (by simp)]; simp [hd]
    · have e1 : (S :: L).getD (x - i) noM = L.getD (x - (i + 1)) noM ∨ x < i := by
        by_cases hx : x < i
        · exact .inr hx
        · left
          rw [show x - i = (x - (i + 1)) + 1 by omega]
          simp
      have : (x ∈ lvL (i + 1) L ↔ i ≤ x ∧ x < i + (S :: L).length ∧ ((S :: L).getD (x - i) noM).dead = false) := by
        rw [ih]
        rcases e1 with e1 | e1
        · rw [e1]; simp only [List.length_cons]
          constructor
          · rintro ⟨a, b, c⟩; exact ⟨by omega, by omega, c⟩
          · rintro ⟨a, b, c⟩; exact ⟨by omega, by omega, c⟩
        · constructor
          · rintro ⟨a, b, c⟩; omega
          · rintro ⟨a, b, c⟩; omega
      split
      · exact this
      · rw [List.mem_cons, this]
        constructor
        · rintro (h | h)
          · exact absurd h e
          · exact h
        · exact .inr
theorem lv_iff (B : BS) (x : Nat) : x ∈ lvL 0 B.ms ↔ x < B.ms.length ∧ ddB B x = false := by
  rw [lvL_mem]; simp [ddB]
theorem lv_has (B : BS) (k : Nat) (h : k < B.ms.length) : ((lvL 0 B.ms).map (fun (n : Nat) => (n : Int))).contains (k : Int) = !ddB B k := by
  have h1 : (k : Int) ∈ (lvL 0 B.ms).map (fun (n : Nat) => (n : Int)) ↔ ddB B k = false := by
    rw [List.mem_map]
    constructor
    · rintro ⟨a, h1, h2⟩
      have : a = k := by omega
      subst this
      exact ((lv_iff B a).1 h1).2
    · exact fun hd => ⟨k, (lv_iff B k).2 ⟨h, hd⟩, rfl⟩
  cases hd : ddB B k with
  | false => exact List.contains_iff_mem.2 (h1.2 hd)
  | true =>
    cases hc : ((lvL 0 B.ms).map (fun (n : Nat) => (n : Int))).contains (k : Int) with
    | false => rfl
    | true => rw [h1.1 (List.contains_iff_mem.1 hc)] at hd; cases hd

/-! ### reading the labels -/
abbrev RS := BS × List ByteArray × Bool
def r1 (i : Nat) (a : Int) (r : RS) : RS := if r.2.2 = true then r else (rdB r.1 i a, (if rdE r.1 i a = 0 then r.2.1 ++ [rdT r.1 i a] else r.2.1), decide (rdE r.1 i a = 21))
def r2 (r : RS) (i : Nat) : RS := r1 i 1 (r1 i 0 r)
def rdF (l : List Nat) (B : BS) : RS := l.foldl r2 (B, [], false)
theorem rdF_snoc (l : List Nat) (i : Nat) (B : BS) : rdF (l ++ [i]) B = r2 (rdF l B) i := by unfold rdF; rw [List.foldl_append]; rfl
theorem r2_stop {r : RS} (h : r.2.2 = true) (i : Nat) : r2 r i = r := by unfold r2 r1; rw [if_pos h, if_pos h]
theorem rdF_stop (l m : List Nat) (B : BS) (h : (rdF l B).2.2 = true) : rdF (l ++ m) B = rdF l B := by
  unfold rdF at h ⊢
  rw [List.foldl_append]
  generalize List.foldl r2 (B, [], false) l = r at h ⊢
  induction m with
  | nil => rfl
  | cons i m ih => rw [List.foldl_cons, r2_stop h]; exact ih

/-! ### publishing -/
def p1 (a : Int) (s : ByteArray) (r : BS × Bool) (i : Nat) : BS × Bool :=
  if r.2 = true then r else if opE r.1 i (fun S => wrE S a s) = 21 then (opS r.1 i (fun S => wr S a s), true)
  else (opS (opS r.1 i (fun S => wr S a s)) i fl, decide (opE (opS r.1 i (fun S => wr S a s)) i flE = 21))
def pbF (a : Int) (s : ByteArray) (l : List Nat) (B : BS) : BS × Bool := l.foldl (p1 a s) (B, false)
theorem pbF_snoc (a : Int) (s : ByteArray) (l : List Nat) (i : Nat) (B : BS) : pbF a s (l ++ [i]) B = p1 a s (pbF a s l B) i := by unfold pbF; rw [List.foldl_append]; rfl
theorem p1_stop {a : Int} {s : ByteArray} {r : BS × Bool} (h : r.2 = true) (i : Nat) : p1 a s r i = r := by unfold p1; rw [if_pos h]
theorem pbF_stop (a : Int) (s : ByteArray) (l m : List Nat) (B : BS) (h : (pbF a s l B).2 = true) : pbF a s (l ++ m) B = pbF a s l B := by
  unfold pbF at h ⊢
  rw [List.foldl_append]
  generalize List.foldl (p1 a s) (B, false) l = r at h ⊢
  induction m with
  | nil => rfl
  | cons i m ih => rw [List.foldl_cons, p1_stop h]; exact ih
/-- a board: its bay, its label. -/
structure KS where
  b : BS
  l : LB
/-- the label that is published. -/
def nx (K : KS) (M : LB) : LB := ⟨M.n, M.s, K.l.ep + 1, M.sts, M.mks⟩
def pbR (K : KS) (M : LB) : BS × Bool := pbF ((K.l.ep + 1) % 2) (puS (nx K M)) (lvL 0 K.b.ms) K.b
def puE' (K : KS) (M : LB) : Int := if (pbR K M).2 = true then 21 else 0
def puK (K : KS) (M : LB) : KS := ⟨(pbR K M).1, if (pbR K M).2 = true then K.l else nx K M⟩

/-! ### the calls -/
def wdV (B : BS) (v : Int) : Nat → List Int → List Int
  | 0, l => l
  | k + 1, l => if ddB B k = true then (wdV B v k l).set k v else wdV B v k l
theorem wdV_len (B : BS) (v : Int) (l : List Int) : ∀ k, (wdV B v k l).length = l.length
  | 0 => rfl
  | k + 1 => by
    simp only [wdV]
    split
    · rw [List.length_set]; exact wdV_len B v l k
    · exact wdV_len B v l k
theorem wdV_at (B : BS) (v : Int) (l : List Int) : ∀ (k j : Nat), j < l.length → (wdV B v k l).getD j 0 = if j < k ∧ ddB B j = true then v else l.getD j 0
  | 0, j, _ => by simp [wdV]
  | k + 1, j, h => by
    have ih := wdV_at B v l k j h
    simp only [wdV]
    by_cases e : k = j
    · subst e
      cases hd : ddB B k with
      | true =>
        rw [if_pos rfl, if_pos ⟨by omega, rfl⟩]
        exact getD_set_eq (by rw [wdV_len]; exact h) _ _
      | false =>
        rw [if_neg (by simp), ih, if_neg (by simp), if_neg (by simp)]
    · have : (if ddB B k = true then (wdV B v k l).set k v else wdV B v k l).getD j 0 = (wdV B v k l).getD j 0 := by
        split
        · exact getD_set_ne (fun h => e h) _ _
        · rfl
      rw [this, ih]
      by_cases h2 : j < k ∧ ddB B j = true
      · rw [if_pos h2, if_pos ⟨by omega, h2.2⟩]
      · rw [if_neg h2, if_neg (fun h3 => h2 ⟨by omega, h3.2⟩)]
/-- the label with all dead members as Failed. -/
def wdL (B : BS) (L : LB) : LB := ⟨L.n, L.s, L.ep, wdV B 1 B.ms.length L.sts, wdV B 0 B.ms.length L.mks⟩
/-- the label with a member as something else. -/
def chL (L : LB) (m : Nat) (st mk : Int) : LB := ⟨L.n, L.s, L.ep, L.sts.set m st, L.mks.set m mk⟩
noncomputable def opnL (B : BS) : LB := nwL (rdF (lvL 0 B.ms) B).2.1 (rdF (lvL 0 B.ms) B).2.1.length
noncomputable def opnX (B : BS) : Int :=
  if (lvL 0 B.ms).length = 0 then 20 else if (rdF (lvL 0 B.ms) B).2.2 = true then 21
  else if nwF (rdF (lvL 0 B.ms) B).2.1 (rdF (lvL 0 B.ms) B).2.1.length = false then 11
  else if ftB (rdF (lvL 0 B.ms) B).1 (opnL B).n (opnL B).s = false then 2 else 0
noncomputable def opnQ (B : BS) : KS := if (lvL 0 B.ms).length = 0 then ⟨B, noL⟩ else ⟨(rdF (lvL 0 B.ms) B).1, opnL B⟩
noncomputable def opnE (B : BS) : Int := if opnX B = 0 then puE' (opnQ B) (wdL (opnQ B).b (opnQ B).l) else opnX B
noncomputable def opnK (B : BS) : KS := if opnX B = 0 then puK (opnQ B) (wdL (opnQ B).b (opnQ B).l) else opnQ B
def inK (K : KS) (m : Int) : Prop := 0 ≤ m ∧ m < K.l.n
instance (K : KS) (m : Int) : Decidable (inK K m) := by unfold inK; infer_instance
def faK (K : KS) (m : Int) : KS := ⟨put K.b m (fa (bm K.b m)), K.l⟩
def rpK (K : KS) (m : Int) : KS := ⟨put K.b m (rp (bm K.b m)), K.l⟩
def knK (K : KS) (m : Int) : Bool := decide (K.l.sts.getD m.toNat 0 = 1) && (bm K.b m).dead
def bfE (K : KS) (m : Int) : Int := if inK K m then (if knK K m = true then 0 else puE' (faK K m) (chL K.l m.toNat 1 0)) else 3
def bfK (K : KS) (m : Int) : KS := if inK K m then (if knK K m = true then K else puK (faK K m) (chL K.l m.toNat 1 0)) else K
def brE (K : KS) (m : Int) : Int := if inK K m then (if K.l.sts.getD m.toNat 0 = 1 then puE' (rpK K m) (chL K.l m.toNat 2 0) else 12) else 3
def brK (K : KS) (m : Int) : KS := if inK K m then (if K.l.sts.getD m.toNat 0 = 1 then puK (rpK K m) (chL K.l m.toNat 2 0) else K) else K
def baX (K : KS) (m t : Int) : Int := if inK K m then (if K.l.mks.getD m.toNat 0 ≤ t ∧ t ≤ K.l.s then (if K.l.sts.getD m.toNat 0 = 2 then 0 else 12) else 3) else 3
def baM (K : KS) (m t : Int) : LB := if t = K.l.s then chL K.l m.toNat 0 0 else chL K.l m.toNat 2 t
def baE (K : KS) (m t : Int) : Int := if baX K m t = 0 then puE' K (baM K m t) else baX K m t
def baK (K : KS) (m t : Int) : KS := if baX K m t = 0 then puK K (baM K m t) else K
/-- the member whose rebuilding is least far, of the first k. -/
def nxF (K : KS) : Nat → Option Nat
  | 0 => none
  | k + 1 => if K.l.sts.getD k 0 = 2 ∧ ddB K.b k = false then (match nxF K k with
      | none => some k
      | some j => if K.l.mks.getD k 0 < K.l.mks.getD j 0 then some k else some j) else nxF K k
def nxM (K : KS) (k : Nat) : Int := match nxF K k with | none => 0 | some j => (j : Int)
def nxT (K : KS) (k : Nat) : Int := match nxF K k with | none => 0 | some j => K.l.mks.getD j 0
def nxB (K : KS) (k : Nat) : Bool := (nxF K k).isSome

/-! ### a new array -/
def fmL (s : Nat) : List Int := [0, 2, 3] ++ (List.range s).map (fun t => 100 + ((t : Nat) : Int))
def wsB (i : Int) (l : List Int) (B : BS) : BS := l.foldl (fun B a => opS B i (fun S => wr S a z64)) B
def bgB (s : Nat) (p : ByteArray) (B : BS) (i : Nat) : BS := opS (opS (wsB i (fmL s) B) i (fun S => wr S 1 p)) i fl
def fmB (n s : Nat) (p : ByteArray) (B : BS) : BS := (List.range n).foldl (bgB s p) B
def newL (n s : Int) : LB := ⟨n, s, 1, List.replicate n.toNat 0, List.replicate n.toNat 0⟩
def fmE (B : BS) (n s : Int) : Int := if gg n s = true then (if ftB B n s = true then (if (lvL 0 B.ms).length < B.ms.length then 20 else 0) else 2) else 4
def fmS (B : BS) (n s : Int) : BS := if fmE B n s = 0 then fmB n.toNat s.toNat (puS (newL n s)) B else B

end Go.Proofs.YtinpkfdmellleaaGreat

namespace Go.Proofs.YtinpkfdmellleaaGreat
open Go.RowKit Plain
set_option linter.unusedVariables false

theorem Nl.sp {w w' : World} {v : Value} {l : List Int} {F : List Nat} (h : Nl w v l) (k : Sp F w w') (hq : ∀ q, v.ownBlock = some q → q ∉ F) : Nl w' v l := by
  obtain ⟨a, g, off, cap, rfl, A⟩ := h
  refine ⟨a, g, off, cap, rfl, ⟨A.le, A.mx, A.ha, fun j hj => k.held (A.c j hj) (hq g ?_)⟩⟩
  rw [A.ha (by omega)]; rfl
theorem Nl.lt {w : World} {v : Value} {l : List Int} (h : Nl w v l) (hl : 0 < l.length) : ∀ q, v.ownBlock = some q → q < w.heap.size := fun q hq => by
  obtain ⟨a, g, off, cap, rfl, A⟩ := h
  have e := A.ha hl
  subst e
  have : g = q := by injection hq
  subst this
  exact World.block_lt_of_cell? _ _ (A.c 0 hl)
/-- a board. -/
structure KX (w0 w : World) (x b : Nat) (T : List Nat) (K : KS) (sv mv : Value) : Prop where
  hx : x < w.heap.size
  lx : w0.heap.size ≤ x
  nt : x ∉ T
  c0 : w.cell? ⟨x, 0, none⟩ = some (.pointer (some ⟨b, 0, none⟩))
  c1 : w.cell? ⟨x, 1, none⟩ = some (.int .i64 K.l.n)
  c2 : w.cell? ⟨x, 2, none⟩ = some (.int .i64 K.l.s)
  c3 : w.cell? ⟨x, 3, none⟩ = some (.int .i64 K.l.ep)
  c4 : w.cell? ⟨x, 4, none⟩ = some sv
  c5 : w.cell? ⟨x, 5, none⟩ = some mv
  fz : ∀ o, w.frozen? ⟨x, o, none⟩ = false
  bay : Bw w0 w b T K.b
  n1 : Nl w sv K.l.sts
  n2 : Nl w mv K.l.mks
  q1 : ∀ q, sv.ownBlock = some q → q ∉ x :: T ∧ q < w.heap.size
  q2 : ∀ q, mv.ownBlock = some q → q ∉ x :: T ∧ q < w.heap.size
theorem nw_nt {w : World} {T T' : List Nat} {x : Nat} (n : Nw w T T') (hx : x < w.heap.size) (h : x ∉ T) : x ∉ T' := fun ht => (n x ht).elim h (fun h => by omega)
theorem nw_nc {w : World} {T T' : List Nat} {x q : Nat} (n : Nw w T T') (hq : q < w.heap.size) (h : q ∉ x :: T) : q ∉ x :: T' := fun ht => by
  rcases List.mem_cons.1 ht with e | e
  · exact h (by rw [e]; exact List.mem_cons_self)
  · exact nw_nt n hq (fun hh => h (List.mem_cons_of_mem _ hh)) e
/-- behind a call on its bay. -/
theorem KX.bayX {w0 w w' : World} {x b : Nat} {T T' : List Nat} {K : KS} {sv mv : Value} {B : BS} (h : KX w0 w x b T K sv mv) (o : Bw w0 w' b T' B) (s : Sp T w w') (n : Nw w T T') : KX w0 w' x b T' ⟨B, K.l⟩ sv mv :=
  ⟨Nat.lt_of_lt_of_le h.hx s.size, h.lx, nw_nt n h.hx h.nt, s.held h.c0 h.nt, s.held h.c1 h.nt, s.held h.c2 h.nt, s.held h.c3 h.nt, s.held h.c4 h.nt, s.held h.c5 h.nt, fun o => (s.frozen h.hx h.nt o).trans (h.fz o), o,
    h.n1.sp s (fun q hq hm => (h.q1 q hq).1 (List.mem_cons_of_mem _ hm)), h.n2.sp s (fun q hq hm => (h.q2 q hq).1 (List.mem_cons_of_mem _ hm)),
    fun q hq => ⟨nw_nc n (h.q1 q hq).2 (h.q1 q hq).1, Nat.lt_of_lt_of_le (h.q1 q hq).2 s.size⟩, fun q hq => ⟨nw_nc n (h.q2 q hq).2 (h.q2 q hq).1, Nat.lt_of_lt_of_le (h.q2 q hq).2 s.size⟩⟩
theorem KX.kp {w0 w w' : World} {x b : Nat} {T : List Nat} {K : KS} {sv mv : Value} (h : KX w0 w x b T K sv mv) (k : Kp w w') : KX w0 w' x b T K sv mv :=
  ⟨Nat.lt_of_lt_of_le h.hx k.size, h.lx, h.nt, k.held h.c0, k.held h.c1, k.held h.c2, k.held h.c3, k.held h.c4, k.held h.c5, fun o => ((k.sp []).frozen h.hx (by simp) o).trans (h.fz o), OL.bw.sp h.bay (k.sp []) (fun _ _ h => by cases h), h.n1.kept k, h.n2.kept k,
    fun q hq => ⟨(h.q1 q hq).1, Nat.lt_of_lt_of_le (h.q1 q hq).2 k.size⟩, fun q hq => ⟨(h.q2 q hq).1, Nat.lt_of_lt_of_le (h.q2 q hq).2 k.size⟩⟩
/-- behind a call on something else. -/
theorem KX.sp {w0 w w' : World} {x b : Nat} {T U : List Nat} {K : KS} {sv mv : Value} (h : KX w0 w x b T K sv mv) (k : Sp U w w') (hU : ∀ t, t ∈ x :: T → t ∉ U) (h1 : ∀ q, sv.ownBlock = some q → q ∉ U) (h2 : ∀ q, mv.ownBlock = some q → q ∉ U) : KX w0 w' x b T K sv mv :=
  have hx := hU x List.mem_cons_self
  ⟨Nat.lt_of_lt_of_le h.hx k.size, h.lx, h.nt, k.held h.c0 hx, k.held h.c1 hx, k.held h.c2 hx, k.held h.c3 hx, k.held h.c4 hx, k.held h.c5 hx, fun o => (k.frozen h.hx hx o).trans (h.fz o), OL.bw.sp h.bay k (fun t ht => hU t (List.mem_cons_of_mem _ ht)), h.n1.sp k h1, h.n2.sp k h2,
    fun q hq => ⟨(h.q1 q hq).1, Nat.lt_of_lt_of_le (h.q1 q hq).2 k.size⟩, fun q hq => ⟨(h.q2 q hq).1, Nat.lt_of_lt_of_le (h.q2 q hq).2 k.size⟩⟩

/-- behind a call on it. -/
def Kz (w0 w w' : World) (x b : Nat) (T : List Nat) (K : KS) : Prop := ∃ T' s v, KX w0 w' x b T' K s v ∧ Sp (x :: T) w w' ∧ Nw w T T'
theorem Kz.refl {w0 w : World} {x b : Nat} {T : List Nat} {K : KS} {sv mv : Value} (h : KX w0 w x b T K sv mv) : Kz w0 w w x b T K := ⟨T, sv, mv, h, Sp.refl _ _, Nw.refl _ _⟩
theorem Kz.kp {w0 w w' w'' : World} {x b : Nat} {T : List Nat} {K : KS} (h : Kz w0 w w' x b T K) (k : Kp w' w'') : Kz w0 w w'' x b T K := by
  obtain ⟨T', s, v, h1, h2, h3⟩ := h
  exact ⟨T', s, v, h1.kp k, h2.trans (k.sp _), h3⟩
theorem Kz.from {w0 w w' w'' : World} {x b : Nat} {T : List Nat} {K : KS} (k : Kp w w') (h : Kz w0 w' w'' x b T K) : Kz w0 w w'' x b T K := by
  obtain ⟨T', s, v, h1, h2, h3⟩ := h
  exact ⟨T', s, v, h1, (k.sp _).trans h2, fun t ht => (h3 t ht).imp id (fun h => Nat.le_trans k.size h)⟩
theorem nw_cons {w : World} {T T' : List Nat} {x : Nat} (n : Nw w T T') : Nw w (x :: T) (x :: T') := fun t ht => by
  rcases List.mem_cons.1 ht with e | e
  · exact .inl (by rw [e]; exact List.mem_cons_self)
  · exact (n t e).imp (List.mem_cons_of_mem _) id
theorem Kz.trans {w0 w w' w'' : World} {x b : Nat} {T : List Nat} {K K' : KS} (h : Kz w0 w w' x b T K) (k : ∀ T' s v, KX w0 w' x b T' K s v → Kz w0 w' w'' x b T' K') : Kz w0 w w'' x b T K' := by
  obtain ⟨T', s, v, h1, h2, h3⟩ := h
  obtain ⟨T2, s2, v2, g1, g2, g3⟩ := k T' s v h1
  exact ⟨T2, s2, v2, g1, h2.then g2 (nw_cons h3), h3.trans g3 h2.size⟩
theorem Kz.below {w0 w w' : World} {x b : Nat} {T : List Nat} {K K0 : KS} {sv mv : Value} (h : Kz w0 w w' x b T K) (h0 : KX w0 w x b T K0 sv mv) (k : Kp w0 w) : Kp w0 w' := by
  obtain ⟨T', s, v, h1, h2, h3⟩ := h
  exact Sp.kp k h2 (fun t ht => by
    rcases List.mem_cons.1 ht with e | e
    · rw [e]; exact h0.lx
    · exact OL.bw.new h0.bay t e)
/-- the blocks of two lists: of those of A, or new. -/
def Lb (A : List Nat) (w : World) (s v : Value) : Prop := ∀ q, (s.ownBlock = some q ∨ v.ownBlock = some q) → q ∈ A ∨ w.heap.size ≤ q
def lbs (s v : Value) : List Nat := s.ownBlock.toList ++ v.ownBlock.toList
theorem Lb.self (w : World) (s v : Value) : Lb (lbs s v) w s v := fun q hq => .inl (by unfold lbs; rcases hq with h | h <;> simp [h])
theorem Lb.mono {A A' : List Nat} {w w' : World} {s v : Value} (h : Lb A w' s v) (hs : w.heap.size ≤ w'.heap.size) (hA : ∀ q, q ∈ A → q ∈ A' ∨ w.heap.size ≤ q) : Lb A' w s v := fun q hq => (h q hq).elim (fun h => hA q h) (fun h => .inr (Nat.le_trans hs h))
/-- behind a call on it, with where its lists lie. -/
def Kl (w0 w w' : World) (x b : Nat) (T : List Nat) (K : KS) (A : List Nat) : Prop := ∃ T' s v, KX w0 w' x b T' K s v ∧ Sp (x :: T) w w' ∧ Nw w T T' ∧ Lb A w s v
theorem Kl.kz {w0 w w' : World} {x b : Nat} {T : List Nat} {K : KS} {A : List Nat} (h : Kl w0 w w' x b T K A) : Kz w0 w w' x b T K := by
  obtain ⟨T', s, v, h1, h2, h3, _⟩ := h
  exact ⟨T', s, v, h1, h2, h3⟩
theorem Kl.refl {w0 w : World} {x b : Nat} {T : List Nat} {K : KS} {sv mv : Value} (h : KX w0 w x b T K sv mv) : Kl w0 w w x b T K (lbs sv mv) := ⟨T, sv, mv, h, Sp.refl _ _, Nw.refl _ _, Lb.self _ _ _⟩
/-- a label's five cells, from the cell 1 on. -/
def ov1 (w : World) (x : Nat) (n s ep : Int) (sv mv : Value) : World := ((((w.setCell ⟨x, 1, none⟩ (.int .i64 n)).setCell ⟨x, 2, none⟩ (.int .i64 s)).setCell ⟨x, 3, none⟩ (.int .i64 ep)).setCell ⟨x, 4, none⟩ sv).setCell ⟨x, 5, none⟩ mv
theorem ov1_sp (w : World) (x : Nat) (n s ep : Int) (sv mv : Value) : Sp [x] w (ov1 w x n s ep sv mv) :=
  ((((((Sp.refl [x] w).set x 1 (by simp) _).set x 2 (by simp) _).set x 3 (by simp) _).set x 4 (by simp) _).set x 5 (by simp) _)
/-- its label is another. -/
theorem KX.store {w0 w : World} {x b : Nat} {T : List Nat} {B : BS} {L0 L : LB} {sv mv u1 u2 : Value} (h : KX w0 w x b T ⟨B, L0⟩ sv mv) (m1 : Nl w u1 L.sts) (m2 : Nl w u2 L.mks) (r1 : ∀ q, u1.ownBlock = some q → q ∉ x :: T ∧ q < w.heap.size) (r2 : ∀ q, u2.ownBlock = some q → q ∉ x :: T ∧ q < w.heap.size) : KX w0 (ov1 w x L.n L.s L.ep u1 u2) x b T ⟨B, L⟩ u1 u2 := by
  have s := ov1_sp w x L.n L.s L.ep u1 u2
  have so := fun (v : World) (o o' : Nat) (u : Value) (hh : o' ≠ o) => set_other v x o o' u hh
  have d1 : (w.setCell ⟨x, 1, none⟩ (.int .i64 L.n)).cell? ⟨x, 1, none⟩ = some (.int .i64 L.n) := set_same _ h.c1
  have fzz : ∀ (v : World) (o o' : Nat) (u : Value), (v.setCell ⟨x, o, none⟩ u).frozen? ⟨x, o', none⟩ = v.frozen? ⟨x, o', none⟩ := fun v o o' u => by simp
  refine ⟨Nat.lt_of_lt_of_le h.hx s.size, h.lx, h.nt, ?_, ?_, ?_, ?_, ?_, ?_, fun o => ?_, OL.bw.sp h.bay s (fun t ht hm => h.nt (by rw [← List.mem_singleton.1 hm]; exact ht)), m1.sp s (fun q hq hm => (r1 q hq).1 (by rw [List.mem_singleton.1 hm]; exact List.mem_cons_self)), m2.sp s (fun q hq hm => (r2 q hq).1 (by rw [List.mem_singleton.1 hm]; exact List.mem_cons_self)), fun q hq => ⟨(r1 q hq).1, Nat.lt_of_lt_of_le (r1 q hq).2 s.size⟩, fun q hq => ⟨(r2 q hq).1, Nat.lt_of_lt_of_le (r2 q hq).2 s.size⟩⟩
  · unfold ov1; rw [so _ _ _ _ (by omega), so _ _ _ _ (by omega), so _ _ _ _ (by omega), so _ _ _ _ (by omega), so _ _ _ _ (by omega)]; exact h.c0
  · unfold ov1; rw [so _ _ _ _ (by omega), so _ _ _ _ (by omega), so _ _ _ _ (by omega), so _ _ _ _ (by omega)]; exact set_same _ h.c1
  · unfold ov1; rw [so _ _ _ _ (by omega), so _ _ _ _ (by omega), so _ _ _ _ (by omega)]; exact set_same _ ((so _ _ _ _ (by omega)).trans h.c2)
  · unfold ov1; rw [so _ _ _ _ (by omega), so _ _ _ _ (by omega)]; exact set_same _ ((so _ _ _ _ (by omega)).trans ((so _ _ _ _ (by omega)).trans h.c3))
  · unfold ov1; rw [so _ _ _ _ (by omega)]; exact set_same _ ((so _ _ _ _ (by omega)).trans ((so _ _ _ _ (by omega)).trans ((so _ _ _ _ (by omega)).trans h.c4)))
  · unfold ov1; exact set_same _ ((so _ _ _ _ (by omega)).trans ((so _ _ _ _ (by omega)).trans ((so _ _ _ _ (by omega)).trans ((so _ _ _ _ (by omega)).trans h.c5))))
  · unfold ov1; rw [fzz, fzz, fzz, fzz, fzz]; exact h.fz o

/-! ### a member of a bay -/
theorem bx_member {w0 w : World} {b m : Nat} {X F : List Nat} {B : BS} (h : BX w0 w b m X F B) {i : Int} (hi : fdE B i = 0) : Calls Tryz.prog 16 #[.pointer (some ⟨b, 0, none⟩), .int .i64 i] w fun e w' => e = .returned (.pointer (some ⟨X.getD i.toNat 0, 0, none⟩)) ∧ w' = w := by
  have hm := member_any h i
  unfold ptr at hm
  rw [if_pos hi] at hm
  exact hm
theorem fd_in {B : BS} {i : Int} (h1 : 0 ≤ i) (h2 : i < B.ms.length) : fdE B i = 0 := if_pos ⟨h1, h2⟩
theorem bx_size {w0 w : World} {b m : Nat} {X F : List Nat} {B : BS} (h : BX w0 w b m X F B) {i : Int} (hi : fdE B i = 0) : Calls Tryz.prog 106 #[.pointer (some ⟨X.getD i.toNat 0, 0, none⟩)] w fun e w' => e = .returned (.int .i64 ((bm B i).las.length : Int)) ∧ w' = w := by
  obtain ⟨P, p1, p2, p3⟩ := h.at hi
  exact ow_size p2
theorem bx_dead {w0 w : World} {b m : Nat} {X F : List Nat} {B : BS} (h : BX w0 w b m X F B) {i : Int} (hi : fdE B i = 0) : Calls Tryz.prog 36 #[.pointer (some ⟨X.getD i.toNat 0, 0, none⟩)] w fun e w' => e = .returned (.bool (bm B i).dead) ∧ BX w0 w' b m X F B ∧ Sp F w w' := by
  obtain ⟨_, _, h2, _⟩ := bm_mem hi
  obtain ⟨P, p1, ⟨bn, bl, rv, rfl, h3, h4⟩, p3⟩ := h.still i.toNat h2
  refine (dead_same h3).mono ?_
  rintro e w' ⟨rfl, h5, h6⟩
  exact ⟨rfl, p3 w' ⟨bn, bl, rv, rfl, h5, h4⟩ h6, h6.mono p1⟩
theorem bx_fail {w0 w : World} {b m : Nat} {X F : List Nat} {B : BS} (h : BX w0 w b m X F B) (K : Kp w0 w) {i : Int} (hi : fdE B i = 0) : Calls Tryz.prog 17 #[.pointer (some ⟨X.getD i.toNat 0, 0, none⟩)] w fun e w' => e = .returned (.tuple #[]) ∧ Nz Bw w0 w w' b (b :: m :: F) (put B i (fa (bm B i))) := by
  obtain ⟨P, p1, p2, p3⟩ := h.at hi
  refine (ow_fail p2 K).mono ?_
  rintro e w' ⟨rfl, hn⟩
  exact ⟨rfl, p3 w' _ hn Right.fa (Nat.zero_le _)⟩
theorem bx_replace {w0 w : World} {b m : Nat} {X F : List Nat} {B : BS} (h : BX w0 w b m X F B) (K : Kp w0 w) {i : Int} (hi : fdE B i = 0) : Calls Tryz.prog 83 #[.pointer (some ⟨X.getD i.toNat 0, 0, none⟩)] w fun e w' => e = .returned (.tuple #[]) ∧ Nz Bw w0 w w' b (b :: m :: F) (put B i (rp (bm B i))) := by
  obtain ⟨P, p1, p2, p3⟩ := h.at hi
  refine (ow_replace p2 K).mono ?_
  rintro e w' ⟨rfl, hn⟩
  exact ⟨rfl, p3 w' _ hn Right.rp (Nat.zero_le _)⟩

/-! ### slices.Contains -/
theorem has_take (l : List Int) (x : Int) (k : Nat) (h : k < l.length) (hn : (l.take k).contains x = false) (hx : l.getD k 0 ≠ x) : (l.take (k + 1)).contains x = false := by
  have e : l.take (k + 1) = l.take k ++ [l.getD k 0] := by
    rw [List.take_add_one, List.getElem?_eq_getElem h, List.getD_eq_getElem?_getD, List.getElem?_eq_getElem h]
    rfl
  cases hc : (l.take (k + 1)).contains x with
  | false => rfl
  | true =>
    rw [e] at hc
    rcases List.mem_append.1 (List.contains_iff_mem.1 hc) with h1 | h1
    · rw [List.contains_iff_mem.2 h1] at hn; cases hn
    · exact absurd (List.mem_singleton.1 h1).symm hx
set_option maxRecDepth 100000 in
set_option maxHeartbeats 2000000 in
theorem index_any (a : Option Addr) (g cap : Nat) (l : List Int) (x : Int) (w : World) (hl : l.length ≤ 1000) (hc : l.length ≤ cap ∧ cap ≤ 9223372036854775807) (ha : 0 < l.length → a = some ⟨g, 0, none⟩) (hv : ∀ j, j < l.length → w.cell? ⟨g, j, none⟩ = some (.int .i64 (l.getD j 0))) : Calls Tryz.prog 141 #[.slice a l.length cap, .int .i64 x] w fun e w' => ∃ r, e = .returned (.int .i64 r) ∧ Hid (decide (0 ≤ r) = l.contains x) ∧ w' = w := by
  obtain ⟨n, hn⟩ : ∃ n, n = l.length := ⟨_, rfl⟩
  rw [← hn]
  have HN : Hid (n = l.length) := hn
  obtain ⟨X, eX⟩ : ∃ X, X = l.contains x := ⟨_, rfl⟩
  rw [← eX]
  have HE : Hid (X = l.contains x) := eX
  clear eX
  rw [← hn] at hl hc ha hv
  clear hn
  go_enter Tryz.func141, Tryz.ntmps141
  go_wp2_with fail
  go_loopw [8] (fun i wr => ∃ k : Nat, k ≤ n ∧ i = .int .i64 k ∧ Hid ((l.take k).contains x = false) ∧ wr = w) (fun i _ => n - (intOf i).toNat)
  case atStart => exact ⟨0, by omega, by go_num, by show _ = _; simp, rfl⟩
  case round =>
    obtain ⟨k, hk, rfl, HC, rfl⟩ := hrel
    by_cases hlt : k < n
    · have ea := ha (by omega)
      subst ea
      have cv := hv k hlt
      have hcap : k < cap := by omega
      obtain ⟨y, ey⟩ : ∃ y, y = l.getD k 0 := ⟨_, rfl⟩
      rw [← ey] at cv
      have EY : Hid (y = l.getD k 0) := ey
      clear ey hv ha
      by_cases hx : x = y
      · have e1 : (x == y) = true := by simpa using hx
        have hcx : Hid (decide ((0 : Int) ≤ (k : Int)) = X) := by
         show _ = _
         rw [HE.out, decide_eq_true (by omega)]
         symm
         refine List.contains_iff_mem.2 ?_
         rw [hx, EY.out, List.getD_eq_getElem?_getD, List.getElem?_eq_getElem (by rw [← HN.out]; exact hlt)]
         exact List.getElem_mem _
        go_wp2
        go_ret
        exact ⟨(k : Int), rfl, hcx, rfl⟩
      · have e1 : (x == y) = false := by simpa using hx
        go_wp2
        go_roundw
        case rel => exact ⟨k + 1, by omega, by go_num, has_take l x k (by rw [← HN.out]; exact hlt) HC.out (fun h => hx (h.symm.trans EY.out.symm)), trivial⟩
        case measure => simp [intOf]; omega
    · have e : k = n := by omega
      go_wp2
      go_ret
      refine ⟨-1, rfl, ?_, rfl⟩
      show _ = _
      have := HC.out
      rw [e, HN.out, List.take_length] at this
      rw [HE.out, this]; rfl
theorem has_any (W : World) (v : Value) (l : List Nat) (x : Int) (w : World) (h : Lv W w v l) (hl : l.length ≤ 1000) : Calls Tryz.prog 116 #[v, .int .i64 x] w fun e w' => e = .returned (.bool ((l.map (fun (n : Nat) => (n : Int))).contains x)) ∧ w' = w := by
  obtain ⟨a, g, cap, rfl, h1, h2, h3, h4⟩ := h
  have hI := index_any a g cap (l.map (fun (n : Nat) => (n : Int))) x w (by simpa using hl) (by simp; omega) (by simpa using fun h => (h3 h).1) (fun j hj => by
    have hj' : j < l.length := by simpa using hj
    rw [h4 j hj']
    simp [List.getD_eq_getElem?_getD, hj'])
  rw [List.length_map] at hI
  obtain ⟨X, eX⟩ : ∃ X, X = (l.map (fun (n : Nat) => (n : Int))).contains x := ⟨_, rfl⟩
  rw [← eX] at hI ⊢
  clear eX h1 h2 h3 h4 hl
  go_enter Tryz.func116, Tryz.ntmps116
  go_wp2_with fail
  refine hI.mono ?_; rintro e w' ⟨r, rfl, hr, rfl⟩
  cases X with
  | true =>
    have h0 : 0 ≤ r := by simpa using hr.out
    go_wp2
    go_ret
    exact ⟨by first | rfl | (simp [h0]), rfl⟩
  | false =>
    have h0 : ¬ 0 ≤ r := by simpa using hr.out
    go_wp2
    go_ret
    exact ⟨by first | rfl | (simp [h0]), rfl⟩

end Go.Proofs.YtinpkfdmellleaaGreat

namespace Go.Proofs.YtinpkfdmellleaaGreat
open Go.RowKit Plain
set_option linter.unusedVariables false

theorem made_zeroB {w : World} {base g n : Nat} {e : TypeId} (h : w.ownsRow base e 1 (.slice (some ⟨g, 0, none⟩) n n) n (madeCells (Value.int .u8 0).cells (n * 1)).toList) :
    w.ownsRow base e 1 (.slice (some ⟨g, 0, none⟩) n n) n ((List.range n).map fun i => Value.int .u8 ((((fun _ => 0 : Nat → Nat) i : Nat)) : Int)) := by
  have e1 : (madeCells (Value.int .u8 0).cells (n * 1)).toList = (List.range n).map fun _ => Value.int .u8 ((0 : Nat) : Int) := by
    rw [Nat.mul_one, show (Value.int .u8 0).cells = #[.int .u8 0] from rfl, toList_madeCells_one, List.map_const', List.length_range]; rfl
  rw [e1] at h
  exact h
/-- make([]byte, n), as a text. -/
theorem made_textB {w0 : World} {base g n : Nat} {e : TypeId} {P : Program} (src dst : TypeId) (hs : P.underlying src = some (.slice e)) (he : P.underlying e = some (.int .u8)) (hd : P.underlying dst = some .string)
    (h : w0.ownsRow base e 1 (.slice (some ⟨g, 0, none⟩) n n) n (madeCells (Value.int .u8 0).cells (n * 1)).toList) : (convert src dst (.slice (some ⟨g, 0, none⟩) n n)).run P w0 = .ok (.string (zs n)) w0 :=
  convert_owned src dst hs he hd (made_zeroB h) (Nat.le_refl n) n
def noughtN (n : Int) : Nat := (min (max n 0) 65536).toNat
set_option maxRecDepth 100000 in
set_option maxHeartbeats 2000000 in
theorem noughts_any (n : Int) (h1 : -9223372036854775808 ≤ n) (h2 : n ≤ 9223372036854775807) (w : World) :
    Calls Tryz.prog 108 #[.int .i64 n] w fun e w' => e = .returned (.string (zs (noughtN n))) ∧ Kp w w' := by
  have hmx := @imax Tryz.prog
  have hmn := @imin Tryz.prog
  obtain ⟨i0, hi, hz0, hz1, hz2⟩ := info_parts info_u8
  obtain ⟨m, hm⟩ : ∃ m, m = noughtN n := ⟨_, rfl⟩
  have hm2 : (m : Int) = min (max n 0) 65536 := by rw [hm]; unfold noughtN; omega
  rw [← hm]
  clear hm
  go_enter Tryz.func108, Tryz.ntmps108
  go_wp2_with (at_make; refine wpList_make_full _ rfl _ _ 37 rfl w.heap.size 5 i0 (.int .u8 0) 1 Tryz.underlying37 hi hz0 hz1 .i64 .i64 _ _ m rfl rfl (by omega) (by omega) (by rw [hz2]; omega) (by unfold maxLen; omega) (Nat.le_refl _) ?_; intro w0 hown0 hgrow0; have hcv := made_textB (P := Tryz.prog) 37 9 Tryz.underlying37 Tryz.underlying5 Tryz.underlying9 hown0)
  all_goals (go_ret; exact ⟨rfl, (Kp.refl w).grown (by assumption) (fun k hk => by cases hk)⟩)
theorem noughts64 (w : World) : Calls Tryz.prog 108 #[.int .i64 64] w fun e w' => e = .returned (.string z64) ∧ Kp w w' := noughts_any 64 (by omega) (by omega) w
theorem BX.kp {w0 w w' : World} {b m : Nat} {X F : List Nat} {B : BS} (h : BX w0 w b m X F B) (k : Kp w w') : BX w0 w' b m X F B := h.sp (k.sp []) (fun _ _ h => by cases h)
theorem ft_yes {B : BS} {z : Nat} {n s : Int} (ev : Ev B z) (h1 : 1 ≤ B.ms.length) (hn : (B.ms.length : Int) = n) : ftB B n s = decide (100 + s ≤ (z : Int)) := by
  unfold ftB
  rw [(ev 0 (by omega)).1]
  by_cases h : 100 + s ≤ (z : Int)
  · rw [decide_eq_true h, decide_eq_true ⟨hn, h⟩]
  · rw [decide_eq_false h, decide_eq_false (fun hh => h hh.2)]
theorem ft_no {B : BS} {n s : Int} (hn : (B.ms.length : Int) ≠ n) : ftB B n s = false := decide_eq_false (fun h => hn h.1)
set_option maxRecDepth 100000 in
set_option maxHeartbeats 4000000 in
theorem fits_any {w0 w : World} {b : Nat} {T : List Nat} {B : BS} (h : Bw w0 w b T B) {z : Nat} (ev : Ev B z) (n s : Int) (hg : gg n s = true) : Calls Tryz.prog 57 #[.pointer (some ⟨b, 0, none⟩), gV n s] w fun e w' => e = .returned (.bool (ftB B n s)) ∧ Kp w w' := by
  obtain ⟨m, X, F, rfl, h1⟩ := h
  have hgd := h1.gd
  have hsz := fun w' (k : Kp w w') => bsize_any (h1.kp k)
  have hsec : ∀ w', Calls Tryz.prog 107 #[gV n s] w' fun e w'' => e = .returned (.int .i64 (100 + s)) ∧ Kp w' w'' := fun w' => by
    have := sectors_any n s w'
    unfold xI at this
    rw [if_pos hg] at this
    exact this
  obtain ⟨g1, g2, g3, g4⟩ := (gg_iff n s).1 hg
  unfold gV at hsec ⊢
  obtain ⟨N, hN⟩ : ∃ N, N = B.ms.length := ⟨_, rfl⟩
  rw [← hN] at hsz
  have hb2 := hgd.n2
  have hb1 := hgd.n1
  rw [← hN] at hb1 hb2
  by_cases hne : (N : Int) = n
  case neg =>
    rw [ft_no (by rw [← hN]; exact hne)]
    clear hsec
    have q0 : ∀ p, (kpw (w.alloc (.cells #[.int .i64 n, .int .i64 s] 50)) p).cell? ⟨w.heap.size, 0, none⟩ = some (.int .i64 n) := fun p => (kpw_kp _ p).held (by rw [World.cell?_alloc_at _ _ _ _ rfl]; rfl)
    go_enter Tryz.func57, Tryz.ntmps57
    go_wp2_with fail
    refine wp_region_kp (by kernel_rfl) (by kernel_rfl) ?_
    repeat (first
      | go_big_quiet_skip
      | (go_big_quiet_want; go_big_quiet_op; go_big_quiet_on)
      | (go_big_quiet_want; go_big_quiet_op; apply Exists.intro; refine ⟨fun p => ?_, ?_⟩; (focus
          first
          | (go_at_call 58; exact kp_same (hsz _ (((Kp.refl w).alloc _).trans (kpw_kp _ p))))); go_big_quiet_on))
    refine wpQuiet_nil ?_
    rintro w0b ⟨p, hp⟩
    have k1 : Kp w w0b := by rw [hp]; exact ((Kp.refl w).alloc _).trans (kpw_kp _ p)
    clear hp q0 hsz
    have hneb : ((N : Int) == n) = false := by simpa using hne
    go_wp2
    go_ret
    exact ⟨rfl, k1⟩
  case pos =>
    have HN : Hid (N = B.ms.length) := hN
    rw [ft_yes ev (by rw [← hN]; exact hb1) (by rw [← hN]; exact hne)]
    have hmem := fun w' (k : Kp w w') (i : Nat) (hi : i < N) => bx_member (h1.kp k) (i := (i : Int)) (fd_in (by omega) (by rw [← hN]; omega))
    have hms := fun w' (k : Kp w w') (i : Nat) (hi : i < N) => by
      have := bx_size (h1.kp k) (i := (i : Int)) (fd_in (by omega) (by rw [← hN]; omega))
      unfold bm at this
      rw [Int.toNat_natCast, (ev i (by rw [← hN]; exact hi)).1] at this
      exact this
    have q0 : ∀ p, (kpw (w.alloc (.cells #[.int .i64 n, .int .i64 s] 50)) p).cell? ⟨w.heap.size, 0, none⟩ = some (.int .i64 n) := fun p => (kpw_kp _ p).held (by rw [World.cell?_alloc_at _ _ _ _ rfl]; rfl)
    have r0 : Hid (∀ w', Kp (w.alloc (.cells #[.int .i64 n, .int .i64 s] 50)) w' → w'.cell? ⟨w.heap.size, 0, none⟩ = some (.int .i64 n) ∧ w'.cell? ⟨w.heap.size, 1, none⟩ = some (.int .i64 s)) := fun w' k => ⟨k.held (by rw [World.cell?_alloc_at _ _ _ _ rfl]; rfl), k.held (by rw [World.cell?_alloc_at _ _ _ _ rfl]; rfl)⟩
    have hneb : ((N : Int) == n) = true := by simpa using hne
    clear hN
    obtain ⟨D, hD⟩ : ∃ D, D = decide (100 + s ≤ (z : Int)) := ⟨_, rfl⟩
    rw [← hD]
    have HD : Hid (D = decide (100 + s ≤ (z : Int))) := hD
    clear hD
    go_enter Tryz.func57, Tryz.ntmps57
    go_wp2_with fail
    refine wp_region_kp (by kernel_rfl) (by kernel_rfl) ?_
    repeat (first
      | go_big_quiet_skip
      | (go_big_quiet_want; go_big_quiet_op; go_big_quiet_on)
      | (go_big_quiet_want; go_big_quiet_op; apply Exists.intro; refine ⟨fun p => ?_, ?_⟩; (focus
          first
          | (go_at_call 58; exact kp_same (hsz _ (((Kp.refl w).alloc _).trans (kpw_kp _ p))))); go_big_quiet_on))
    refine wpQuiet_nil ?_
    rintro w0b ⟨p, hp⟩
    have k1 : Kp (w.alloc (.cells #[.int .i64 n, .int .i64 s] 50)) w0b := by rw [hp]; exact (kpw_kp _ p)
    have K1 := hid k1
    obtain ⟨a0, a1⟩ := r0.out w0b k1
    have kA : Hid (Kp w (w.alloc (.cells #[.int .i64 n, .int .i64 s] 50))) := (Kp.refl w).alloc _
    obtain ⟨W, hW⟩ : ∃ W, W = w.alloc (.cells #[.int .i64 n, .int .i64 s] 50) := ⟨_, rfl⟩
    rw [← hW] at K1 kA r0
    clear hp q0 hsz k1 p hW
    subst hne
    go_wp2_with fail
    go_loopw [13] (fun i wr => ∃ k : Nat, k ≤ N ∧ i = .int .i64 k ∧ Hid (0 < k → D = true) ∧ Hid (Kp W wr)) (fun i _ => N - (intOf i).toNat)
    case atStart => exact ⟨0, by omega, by go_num, fun h => absurd h (by omega), K1⟩
    case round =>
      clear a0 a1 K1
      obtain ⟨k, hk, rfl, HQ, HK⟩ := hrel
      by_cases hlt : k < N
      · have hm1 := fun p => hmem (kpw wr p) (kA.out.trans (HK.out.trans (kpw_kp _ p))) k hlt
        have hm2 := fun p => hms (kpw wr p) (kA.out.trans (HK.out.trans (kpw_kp _ p))) k hlt
        have q0 := fun p => (r0.out (kpw wr p) (HK.out.trans (kpw_kp _ p))).1
        have q1 := fun p => (r0.out (kpw wr p) (HK.out.trans (kpw_kp _ p))).2
        go_wp2_with fail
        refine wp_region_kp (by kernel_rfl) (by kernel_rfl) ?_
        repeat (first
          | go_big_quiet_skip
          | (go_big_quiet_want; go_big_quiet_op; go_big_quiet_on)
          | (go_big_quiet_want; go_big_quiet_op; apply Exists.intro; refine ⟨fun p => ?_, ?_⟩; (focus
              first
              | (go_at_call 16; exact kp_same (hm1 p))
              | (go_at_call 106; exact kp_same (hm2 p))
              | (go_at_call 107; exact kp_call (hsec _))); go_big_quiet_on))
        refine wpQuiet_nil ?_
        rintro w1b ⟨p, hp⟩
        have HK1 : Hid (Kp W w1b) := by show Kp W w1b; rw [hp]; exact HK.out.trans (kpw_kp _ p)
        clear hp q0 q1 hm1 hm2 p
        cases D with
        | true =>
          have hz : 100 + s ≤ (z : Int) := of_decide_eq_true HD.out.symm
          have hz2 : ¬ (z : Int) < 100 + s := by omega
          go_wp2
          go_roundw
          case rel => exact ⟨k + 1, by omega, by go_num, fun _ => trivial, HK1⟩
          case measure => simp [intOf]; omega
        | false =>
          have hz : ¬ 100 + s ≤ (z : Int) := of_decide_eq_false HD.out.symm
          have hz2 : (z : Int) < 100 + s := by omega
          go_wp2
          go_ret
          exact ⟨rfl, kA.out.trans HK1.out⟩
      · have e : k = N := by omega
        have hDt := HQ.out (by omega)
        subst hDt
        go_wp2
        go_ret
        exact ⟨rfl, kA.out.trans HK.out⟩
set_option maxRecDepth 100000 in
set_option maxHeartbeats 2000000 in
/-- a label's sector, and which one it is. -/
theorem sectorOf_any (L : LB) (sv mv : Value) (w : World) (h1 : Nl w sv L.sts) (h2 : Nl w mv L.mks) (h0 : 0 ≤ L.ep) : Calls Tryz.prog 110 #[lV L.n L.s L.ep sv mv] w fun e w' => e = .returned (.tuple #[.string (puS L), .int .i64 (L.ep % 2)]) ∧ Kp w w' := by
  have hP := fun w' (k : Kp w w') => put_anyL9 L sv mv w' (h1.kept k) (h2.kept k)
  obtain ⟨a1, n1, p1, rfl⟩ : ∃ a n c, sv = .slice a n c := by obtain ⟨a, g, off, cap, rfl, _⟩ := h1; exact ⟨_, _, _, rfl⟩
  obtain ⟨a2, n2, p2, rfl⟩ : ∃ a n c, mv = .slice a n c := by obtain ⟨a, g, off, cap, rfl, _⟩ := h2; exact ⟨_, _, _, rfl⟩
  clear h1 h2
  obtain ⟨n, s, ep, sts, mks⟩ := L
  dsimp only at *
  have tm : ep.tmod 2 = ep % 2 := Int.tmod_eq_emod_of_nonneg h0
  have t1 := Int.emod_nonneg ep (show (2 : Int) ≠ 0 by omega)
  have t2 := Int.emod_lt_of_pos ep (show (0 : Int) < 2 by omega)
  obtain ⟨r, er⟩ : ∃ r, r = ep % 2 := ⟨_, rfl⟩
  obtain ⟨S, eS⟩ : ∃ S, S = puS ⟨n, s, ep, sts, mks⟩ := ⟨_, rfl⟩
  obtain ⟨E, eE⟩ : ∃ E, E = puE ⟨n, s, ep, sts, mks⟩ := ⟨_, rfl⟩
  rw [← er] at tm t1 t2 ⊢
  rw [← eS, ← eE] at hP
  rw [← eS]
  clear er eS eE
  unfold lV at hP ⊢
  have kA : Kp w (w.alloc (.cells #[.int .i64 n, .int .i64 s, .int .i64 ep, .slice a1 n1 p1, .slice a2 n2 p2] 63)) := (Kp.refl w).alloc _
  have Lc1 : Hid (Lc (w.alloc (.cells #[.int .i64 n, .int .i64 s, .int .i64 ep, .slice a1 n1 p1, .slice a2 n2 p2] 63)) w.heap.size n s ep (.slice a1 n1 p1) (.slice a2 n2 p2)) := Lc.new w _ _ _ _ _ _
  have hP1 := hP _ kA
  clear hP
  go_enter Tryz.func110, Tryz.ntmps110
  go_wp2_with fail
  refine hP1.mono ?_; rintro e w1 ⟨rfl, k1⟩
  have KA := hid (kA.trans k1)
  obtain ⟨q0, q1, q2, q3, q4⟩ := Lc1.out.kept k1
  clear kA k1 hP1
  go_wp2_with fail
  go_region
  go_wp2
  go_ret2
  exact ⟨rfl, KA.out.drew⟩
/-- the sectors that get noughts, the first k stripes' among them. -/
def fmK (k : Nat) : List Value := (fmL k).map (Value.int .i64)
theorem fmK_len (k : Nat) : (fmK k).length = 3 + k := by simp [fmK, fmL]; omega
theorem fmK_more (k : Nat) : fmK (k + 1) = fmK k ++ [.int .i64 (100 + ((k : Nat) : Int))] := by
  simp [fmK, fmL, List.range_succ]
theorem OR.lower {w : World} {base base' : Nat} {e : TypeId} {v : Value} {xs : List Value} (h : OR w base e v xs) (hb : base' ≤ base) : OR w base' e v xs := ⟨h.1, h.2.imp id fun ⟨g, cap, cur, e, hb', r⟩ => ⟨g, cap, cur, e, Nat.le_trans hb hb', r⟩⟩
set_option maxRecDepth 100000 in
set_option maxHeartbeats 2000000 in
theorem emptied_any (n : Int) (S : Nat) (w : World) (hg : gg n S = true) : Calls Tryz.prog 109 #[gV n S] w fun e w' => ∃ v, e = .returned v ∧ OR w' w.heap.size 3 v (fmK S) ∧ Kp w w' := by
  obtain ⟨g1, g2, g3, g4⟩ := (gg_iff n S).1 hg
  have hsec : Hid (∀ (t : Nat), t < S → ∀ w', Calls Tryz.prog 137 #[gV n S, .int .i64 (t : Int)] w' fun e w'' => e = .returned (.tuple #[.int .i64 (100 + (t : Int)), .int .i64 0]) ∧ Kp w' w'') := fun t ht w' => by
    have := sector_any n S t w'
    rw [show sec n S t = (100 + (t : Int), 0) from (if_pos hg).trans (if_pos ⟨by omega, by omega⟩)] at this
    exact this
  unfold gV at hsec ⊢
  have kA : Hid (Kp w (w.alloc (.cells #[.int .i64 n, .int .i64 S] 50))) := (Kp.refl w).alloc _
  have r0 : Hid (∀ w', Kp (w.alloc (.cells #[.int .i64 n, .int .i64 S] 50)) w' → w'.cell? ⟨w.heap.size, 0, none⟩ = some (.int .i64 n) ∧ w'.cell? ⟨w.heap.size, 1, none⟩ = some (.int .i64 S)) := fun w' k => ⟨k.held (by rw [World.cell?_alloc_at _ _ _ _ rfl]; rfl), k.held (by rw [World.cell?_alloc_at _ _ _ _ rfl]; rfl)⟩
  obtain ⟨W, hW⟩ : ∃ W, W = w.alloc (.cells #[.int .i64 n, .int .i64 S] 50) := ⟨_, rfl⟩
  have hWs : W.heap.size = w.heap.size + 1 := by rw [hW]; simp
  go_enter Tryz.func109, Tryz.ntmps109
  go_upto_region 1 with fail
  rw [← hW] at kA r0 ⊢
  clear hW
  have hO : Hid (OR (W.alloc (.cells #[.int .i64 0, .int .i64 2, .int .i64 3] 3)) (w.heap.size + 1) 3 (.slice (some ⟨w.heap.size + 1, 0, none⟩) 3 3) (fmK 0)) := by
    rw [← hWs]
    exact World.ownsRow_lit W #[.int .i64 0, .int .i64 2, .int .i64 3] 3 (by omega) (by unfold maxLen; omega) rfl
  have kB : Hid (Kp W (W.alloc (.cells #[.int .i64 0, .int .i64 2, .int .i64 3] 3))) := (Kp.refl W).alloc _
  have b1 := (r0.out _ kB.out).2
  go_wp2_with fail
  go_loopw [3, 10] (fun v i wr => ∃ k : Nat, k ≤ S ∧ i = .int .i64 k ∧ Hid (OR wr (w.heap.size + 1) 3 v (fmK k)) ∧ Hid (Kp W wr)) (fun _ i _ => S - (intOf i).toNat)
  case atStart => exact ⟨0, by omega, by go_num, hO, kB⟩
  case round =>
    clear hO kB b1
    obtain ⟨k, hk, rfl, HO, HK⟩ := hrel
    by_cases hlt : k < S
    · obtain ⟨c0, c1⟩ := r0.out wr HK.out
      have hS := hsec.out k hlt wr
      go_wp2_with fail
      refine hS.mono ?_; rintro e w1 ⟨rfl, k1⟩
      have HO1 : Hid (OR w1 (w.heap.size + 1) 3 u3 (fmK k)) := HO.out.kp k1
      have HK1 : Hid (Kp W w1) := HK.out.trans k1
      have hs1 := HK1.out.size
      have HL := fmK_len k
      clear hS k1 HO HK c0 c1
      go_wp2_with (at_builtin; refine wpList_append_or rfl _ _ 61 3 (.int .i64 0) 8 Tryz.underlying61 info_int rfl (by omega) rfl (w.heap.size + 1) _ _ rfl (HO1.out.kp ((Kp.refl w1).alloc (.cells #[.int .i64 (100 + (k : Int))] 3))) (.int .i64 (100 + (k : Int))) rfl _ rfl (by rw [World.cell?_alloc_at _ _ _ _ rfl]; rfl) (by omega) (by simp; omega) ?_)
      intro v' w3 ho3 hg3
      have HO3 : Hid (OR w3 (w.heap.size + 1) 3 v' (fmK (k + 1))) := by rw [fmK_more]; exact ho3
      have HK3 : Hid (Kp W w3) := (HK1.out.alloc _).grown hg3 (fun q hq => by have := (World.ownsRow.lt HO1.out q hq).1; omega)
      clear ho3 hg3 HO1 HK1
      go_wp2
      go_roundw
      case rel => exact ⟨k + 1, by omega, by go_num, HO3, HK3⟩
      case measure => simp [intOf]; omega
    · have e : k = S := by omega
      subst e
      go_wp2
      go_ret
      exact ⟨_, rfl, HO.out.lower (by omega), kA.out.trans HK.out⟩

end Go.Proofs.YtinpkfdmellleaaGreat

namespace Go.Proofs.YtinpkfdmellleaaGreat
open Go.RowKit Plain
set_option linter.unusedVariables false

theorem st_pw {B : BS} {i : Int} (h : B.pw = none) (hi : fdE B i = 0) : stE B i = 0 := by
  unfold stE; rw [if_pos hi, h]; rfl
theorem op_E {B : BS} {i : Int} (h : B.pw = none) (hi : fdE B i = 0) (f : MS → Int) : opE B i f = f (bm B i) := if_pos (st_pw h hi)
theorem op_S {B : BS} {i : Int} (h : B.pw = none) (hi : fdE B i = 0) (f : MS → MS) : opS B i f = ⟨none, B.md + 1, B.g + 1, B.ms.set i.toNat (f (bm B i))⟩ := by
  unfold opS
  rw [if_pos (st_pw h hi)]
  unfold stS put
  rw [if_pos (st_pw h hi), h]
  rfl
/-- a member that lives, with z sectors. -/
def MO (S : MS) (z : Nat) : Prop := S.dead = false ∧ S.las.length = z ∧ S.now.length = z
theorem wr_S {S : MS} {z : Nat} (h : MO S z) {a : Int} (h0 : 0 ≤ a) (h1 : a < z) {t : ByteArray} (ht : t.size = 64) : wrE S a t = 0 ∧ wr S a t = ⟨S.now.set a.toNat t, S.las, S.row ++ [(a.toNat, t)], S.dead, up S.c 1⟩ := by
  have e1 : rcE S a = 0 := by unfold rcE; rw [h.1, if_neg (by simp), if_pos ⟨h0, by rw [h.2.1]; exact h1⟩]
  have e2 : wrE S a t = 0 := by unfold wrE; rw [if_pos e1, if_pos ht]
  exact ⟨e2, by unfold wr; rw [if_pos e2]⟩
theorem MO.wr {S : MS} {z : Nat} (h : MO S z) (a : Int) (t : ByteArray) : MO (wr S a t) z := by
  unfold Go.Proofs.YtinpkfdmellleaaGreat.wr
  split
  · exact ⟨h.1, h.2.1, by show (S.now.set _ _).length = z; rw [List.length_set]; exact h.2.2⟩
  · exact h
theorem MO.fl {S : MS} {z : Nat} (h : MO S z) : MO (fl S) z := by
  unfold Go.Proofs.YtinpkfdmellleaaGreat.fl
  rw [h.1, if_neg (by simp)]
  exact ⟨rfl, by show (pl _ _).length = z; rw [pl_len]; exact h.2.1, h.2.2⟩
theorem fl_now {S : MS} : (fl S).now = S.now := by
  unfold fl; split <;> rfl
theorem fl_E {S : MS} {z : Nat} (h : MO S z) : flE S = 0 := by unfold flE; rw [h.1, if_neg (by simp)]
def wsM (l : List Int) (S : MS) : MS := l.foldl (fun S a => wr S a z64) S
theorem MO.ws {z : Nat} : ∀ (l : List Int) {S : MS}, MO S z → MO (wsM l S) z
  | [], _, h => h
  | a :: l, S, h => MO.ws l (h.wr a z64)
theorem ws_keep {z : Nat} (j : Nat) : ∀ (l : List Int) {S : MS}, MO S z → S.now.getD j noS = z64 → (wsM l S).now.getD j noS = z64
  | [], _, _, h => h
  | a :: l, S, hm, h => ws_keep j l (hm.wr a z64) (by
    show (wr S a z64).now.getD j noS = z64
    unfold wr
    split
    · show (S.now.set _ _).getD j noS = z64
      by_cases e : a.toNat = j
      · by_cases hj : j < S.now.length
        · subst e; exact getD_set_eq hj _ _
        · rw [List.getD_eq_getElem?_getD, List.getElem?_eq_none (by rw [List.length_set]; omega)] 
          rw [List.getD_eq_getElem?_getD, List.getElem?_eq_none (by omega)] at h
          exact h
      · rw [getD_set_ne e]; exact h
    · exact h)
theorem bm_set {B : BS} {i : Int} (hi : fdE B i = 0) (S : MS) (a b : Nat) : bm ⟨none, a, b, B.ms.set i.toNat S⟩ i = S := getD_set_eq (bm_mem hi).2.2.1 _ _
theorem fd_set {B : BS} {i j : Int} (S : MS) (a b : Nat) : fdE ⟨none, a, b, B.ms.set i.toNat S⟩ j = fdE B j := by unfold fdE; simp
theorem ws_B (i : Int) : ∀ (l : List Int) (B : BS), B.pw = none → fdE B i = 0 → wsB i l B = ⟨none, B.md + l.length, B.g + l.length, B.ms.set i.toNat (wsM l (bm B i))⟩
  | [], B, h, hi => by
    have : B.ms.set i.toNat (bm B i) = B.ms := by
      unfold bm
      have h2 := (bm_mem hi).2.2.1
      rw [List.getD_eq_getElem?_getD, List.getElem?_eq_getElem h2]
      simp
    unfold wsB wsM
    simp only [List.foldl_nil, List.length_nil, Nat.add_zero]
    rw [this]
    cases B; simp_all
  | a :: l, B, h, hi => by
    have ih := ws_B i l (opS B i (fun S => wr S a z64)) (by rw [op_S h hi]) (by rw [op_S h hi, fd_set]; exact hi)
    show wsB i l (opS B i (fun S => wr S a z64)) = _
    rw [ih, op_S h hi, bm_set hi]
    simp only [List.set_set, List.length_cons]
    rw [show B.md + 1 + l.length = B.md + (l.length + 1) by omega, show B.g + 1 + l.length = B.g + (l.length + 1) by omega]
    rfl
/-- what Format makes of a member. -/
def fmM (s : Nat) (p : ByteArray) (S : MS) : MS := fl (wr (wsM (fmL s) S) 1 p)
theorem fmL_len (s : Nat) : (fmL s).length = 3 + s := by simp [fmL]; omega
theorem bg_B {s : Nat} {p : ByteArray} {B : BS} {i : Nat} (h : B.pw = none) (hi : i < B.ms.length) : bgB s p B i = ⟨none, B.md + (s + 5), B.g + (s + 5), B.ms.set i (fmM s p (B.ms.getD i noM))⟩ := by
  have hf : fdE B (i : Int) = 0 := if_pos ⟨by omega, by omega⟩
  unfold bgB
  have a1 := ws_B (i : Int) (fmL s) B h hf
  have a2 : opS (wsB i (fmL s) B) i (fun S => wr S 1 p) = ⟨none, B.md + (fmL s).length + 1, B.g + (fmL s).length + 1, B.ms.set i (wr (wsM (fmL s) (B.ms.getD i noM)) 1 p)⟩ := by
    rw [a1, op_S rfl (by rw [fd_set]; exact hf), bm_set hf]
    simp only [List.set_set, Int.toNat_natCast]
    rfl
  rw [a2, op_S rfl (by unfold fdE; simp; omega)]
  simp only [List.set_set, Int.toNat_natCast, fmL_len]
  have a3 : bm ⟨none, B.md + (3 + s) + 1, B.g + (3 + s) + 1, B.ms.set i (wr (wsM (fmL s) (B.ms.getD i noM)) 1 p)⟩ (i : Int) = wr (wsM (fmL s) (B.ms.getD i noM)) 1 p := getD_set_eq hi _ _
  rw [a3, show B.md + (3 + s) + 1 + 1 = B.md + (s + 5) by omega, show B.g + (3 + s) + 1 + 1 = B.g + (s + 5) by omega]
  rfl
theorem fm_B {s : Nat} {p : ByteArray} {B : BS} (h : B.pw = none) : ∀ k, k ≤ B.ms.length → ∃ ms, (List.range k).foldl (bgB s p) B = ⟨none, B.md + k * (s + 5), B.g + k * (s + 5), ms⟩ ∧ ms.length = B.ms.length ∧ ∀ j, ms.getD j noM = if j < k then fmM s p (B.ms.getD j noM) else B.ms.getD j noM
  | 0, _ => ⟨B.ms, by cases B; simp_all, rfl, fun j => by simp⟩
  | k + 1, hk => by
    obtain ⟨ms, e1, e2, e3⟩ := fm_B (s := s) (p := p) h k (by omega)
    rw [List.range_succ, List.foldl_append, e1]
    have hb := bg_B (s := s) (p := p) (B := ⟨none, B.md + k * (s + 5), B.g + k * (s + 5), ms⟩) (i := k) rfl (by show k < ms.length; omega)
    refine ⟨ms.set k (fmM s p (ms.getD k noM)), ?_, by rw [List.length_set]; exact e2, fun j => ?_⟩
    · show bgB s p _ k = _
      rw [hb]
      simp only
      rw [show B.md + k * (s + 5) + (s + 5) = B.md + (k + 1) * (s + 5) by rw [Nat.add_mul]; omega, show B.g + k * (s + 5) + (s + 5) = B.g + (k + 1) * (s + 5) by rw [Nat.add_mul]; omega]
    · by_cases e : j = k
      · subst e
        rw [getD_set_eq (by omega), e3 j, if_neg (by omega), if_pos (by omega)]
      · rw [getD_set_ne (fun h => e h.symm), e3 j]
        by_cases h2 : j < k
        · rw [if_pos h2, if_pos (by omega)]
        · rw [if_neg h2, if_neg (by omega)]
/-- behind Format a member lives, has noughts in its sector 0 and the label in its sector 1. -/
theorem fm_M {s z : Nat} {p : ByteArray} {S : MS} (h : MO S z) (hz : 2 ≤ z) (hp : p.size = 64) : MO (fmM s p S) z ∧ (fmM s p S).now.getD 0 noS = z64 ∧ (fmM s p S).now.getD 1 noS = p := by
  have h1 : MO (wsM (fmL s) S) z := MO.ws _ h
  have h0 : (wsM (fmL s) S).now.getD 0 noS = z64 := by
    show (wsM ([2, 3] ++ (List.range s).map (fun t => 100 + ((t : Nat) : Int))) (wr S 0 z64)).now.getD 0 noS = z64
    refine ws_keep 0 _ (h.wr 0 z64) ?_
    rw [(wr_S h (a := 0) (by omega) (by omega) z64_size).2]
    exact getD_set_eq (by rw [h.2.2]; omega) _ _
  have h2 := wr_S h1 (a := 1) (by omega) (by omega) hp
  refine ⟨(h1.wr 1 p).fl, ?_, ?_⟩
  · unfold fmM
    rw [fl_now, h2.2]
    show ((wsM (fmL s) S).now.set 1 p).getD 0 noS = z64
    rw [getD_set_ne (by omega)]; exact h0
  · unfold fmM
    rw [fl_now, h2.2]
    exact getD_set_eq (by rw [h1.2.2]; omega) _ _

end Go.Proofs.YtinpkfdmellleaaGreat

namespace Go.Proofs.YtinpkfdmellleaaGreat
open Go.RowKit Plain
set_option linter.unusedVariables false

theorem fm_in {S : Nat} {a : Int} (h : a ∈ fmL S) : 0 ≤ a ∧ a < 100 + S ∧ a < 4 ∨ 0 ≤ a ∧ a < 100 + S := by
  unfold fmL at h
  rcases List.mem_append.1 h with h | h
  · simp at h; omega
  · obtain ⟨t, h1, h2⟩ := List.mem_map.1 h
    have := List.mem_range.1 h1
    omega
theorem ws_step {B : BS} {i : Int} {l : List Int} {a : Int} {z : Nat} (pw : B.pw = none) (hi : fdE B i = 0) (mo : MO (bm B i) z) (h0 : 0 ≤ a) (h1 : a < z) : opE (wsB i l B) i (fun S => wrE S a z64) = 0 ∧ opS (wsB i l B) i (fun S => wr S a z64) = wsB i (l ++ [a]) B ∧ (wsB i l B).g = B.g + l.length := by
  have e := ws_B i l B pw hi
  refine ⟨?_, ?_, by rw [e]⟩
  · rw [e, op_E rfl (by rw [fd_set]; exact hi), bm_set hi]
    exact (wr_S (mo.ws l) h0 h1 z64_size).1
  · unfold wsB; rw [List.foldl_append]; rfl
theorem bg_step {B : BS} {i : Nat} {s z : Nat} {p : ByteArray} (pw : B.pw = none) (hi : i < B.ms.length) (mo : MO (B.ms.getD i noM) z) (hz : 2 ≤ z) (hp : p.size = 64) : opE (wsB i (fmL s) B) i (fun S => wrE S 1 p) = 0 ∧ opE (opS (wsB i (fmL s) B) i (fun S => wr S 1 p)) i flE = 0 ∧ (opS (wsB i (fmL s) B) i (fun S => wr S 1 p)).g = B.g + (s + 4) := by
  have hf : fdE B (i : Int) = 0 := if_pos ⟨by omega, by omega⟩
  have hb : bm B (i : Int) = B.ms.getD i noM := by unfold bm; rw [Int.toNat_natCast]
  have e := ws_B (i : Int) (fmL s) B pw hf
  have m1 : MO (wsM (fmL s) (bm B (i : Int))) z := MO.ws _ (by rw [hb]; exact mo)
  have e2 : opS (wsB i (fmL s) B) i (fun S => wr S 1 p) = ⟨none, B.md + (fmL s).length + 1, B.g + (fmL s).length + 1, B.ms.set i (wr (wsM (fmL s) (bm B (i : Int))) 1 p)⟩ := by
    rw [e, op_S rfl (by rw [fd_set]; exact hf), bm_set hf]
    simp only [List.set_set, Int.toNat_natCast]
  refine ⟨?_, ?_, ?_⟩
  · rw [e, op_E rfl (by rw [fd_set]; exact hf), bm_set hf]
    exact (wr_S m1 (by omega) (by omega) hp).1
  · rw [e2, op_E rfl (by unfold fdE; simp; omega)]
    have : bm ⟨none, B.md + (fmL s).length + 1, B.g + (fmL s).length + 1, B.ms.set i (wr (wsM (fmL s) (bm B (i : Int))) 1 p)⟩ (i : Int) = wr (wsM (fmL s) (bm B (i : Int))) 1 p := getD_set_eq hi _ _
    rw [this]
    exact fl_E (m1.wr 1 p)
  · rw [e2]; show B.g + (fmL s).length + 1 = _; rw [fmL_len]; omega
theorem pu_size {L : LB} (h : lg L = true) : (puS L).size = 64 := by unfold puS; rw [if_pos h]; exact ptS_size L

set_option maxRecDepth 100000 in
set_option maxHeartbeats 2000000 in
theorem newF_any (N : Nat) (s : Int) (hg : gg N s = true) (w : World) : Calls Tryz.prog 56 #[gV N s] w fun e w' => ∃ b1 b2, e = .returned (.tuple #[lV N s 1 (.slice (some ⟨b1, 0, none⟩) N N) (.slice (some ⟨b2, 0, none⟩) N N), .int .i64 0]) ∧ b1 ≠ b2 ∧ Fe 89 w' w.heap.size (.slice (some ⟨b1, 0, none⟩) N N) N (fun _ => 0) ∧ Fe 3 w' w.heap.size (.slice (some ⟨b2, 0, none⟩) N N) N (fun _ => 0) ∧ Kp w w' := by
  have hG := good_any N s
  obtain ⟨g1, g2, g3, g4⟩ := (gg_iff _ _).1 hg
  rw [hg] at hG
  have hB := fun w' => blank_anyL9 N s w' (by omega)
  clear hg
  unfold gV at hG hB ⊢
  go_enter Tryz.func56, Tryz.ntmps56
  go_wp2_with fail
  refine (hG _).mono ?_; rintro e w1 ⟨rfl, k1⟩
  have l1 : Lc w1 (w.heap.size + 1) 0 0 0 (.slice none 0 0) (.slice none 0 0) := by
    have := (Lc.new (w.alloc (.cells #[.int .i64 (N : Int), .int .i64 s] 50)) 0 0 0 (.slice none 0 0) (.slice none 0 0) 63)
    simp only [asz] at this
    exact this.kept k1
  have z1 : ∀ o, w1.frozen? ⟨w.heap.size + 1, o, none⟩ = false := fun o => (Below.frozen (p := ⟨w.heap.size + 1, o, none⟩) k1 (by simp)).trans (by simp)
  have c0 : w1.cell? ⟨w.heap.size, 0, none⟩ = some (.int .i64 (N : Int)) := k1.held (((Kp.refl _).alloc _).held (by simp))
  have c1 : w1.cell? ⟨w.heap.size, 1, none⟩ = some (.int .i64 s) := k1.held (((Kp.refl _).alloc _).held (by simp))
  have K1 : Kp w w1 := (((Kp.refl w).alloc _).alloc _).trans k1
  have hs1 : w.heap.size + 1 < w1.heap.size := World.block_lt_of_cell? _ _ l1.c0
  clear hG k1
  go_wp2_with fail
  refine (hB _).mono ?_; rintro e w2 ⟨b1, b2, rfl, hne, f1, f2, k2⟩
  have l2 := l1.kept k2
  have z2 : ∀ o, w2.frozen? ⟨w.heap.size + 1, o, none⟩ = false := fun o => (Below.frozen (p := ⟨w.heap.size + 1, o, none⟩) k2 hs1).trans (z1 o)
  have K2 : Hid (Kp w w2) := K1.trans k2
  unfold lV
  clear hB l1 z1 c0 c1 K1 k2
  obtain ⟨c0, c1, c2, c3, c4⟩ := l2
  have hs2 : w.heap.size + 1 < w2.heap.size := World.block_lt_of_cell? _ _ c0
  have F1 : Hid (Fe 89 w2 w1.heap.size (.slice (some ⟨b1, 0, none⟩) N N) N (fun _ => 0)) := f1
  have F2 : Hid (Fe 3 w2 w1.heap.size (.slice (some ⟨b2, 0, none⟩) N N) N (fun _ => 0)) := f2
  clear f1 f2
  go_wp2
  have t2 := (Trd.refl (w.heap.size + 1) w2).over N s 1 (.slice (some ⟨b1, 0, none⟩) N N) (.slice (some ⟨b2, 0, none⟩) N N)
  have lo : ∀ {e : TypeId} {b : Nat}, Fe e w2 w1.heap.size (.slice (some ⟨b, 0, none⟩) N N) N (fun _ => 0) → (Value.slice (some ⟨b, 0, none⟩) N N).ownBlock ≠ some (w.heap.size + 1) := fun {e b} h h' => by
    have h1 := (World.ownsRow.lt h b rfl).1
    have h2 : b = w.heap.size + 1 := Option.some.inj h'
    omega
  have n1 := ((t2.fe F1.out (lo F1.out)).kept ((Kp.refl _).alloc (.cells #[.int .i64 (N : Int), .int .i64 s, .int .i64 1, .slice (some ⟨b1, 0, none⟩) N N, .slice (some ⟨b2, 0, none⟩) N N] 63)))
  have n2 := ((t2.fe F2.out (lo F2.out)).kept ((Kp.refl _).alloc (.cells #[.int .i64 (N : Int), .int .i64 s, .int .i64 1, .slice (some ⟨b1, 0, none⟩) N N, .slice (some ⟨b2, 0, none⟩) N N] 63)))
  refine bodyPost_ret (results_lb2 rfl _ _ (w.heap.size + 1) rfl rfl ((Lc.over (n2 := N) (s2 := s) (ep2 := 1) (sv2 := .slice (some ⟨b1, 0, none⟩) N N) (mv2 := .slice (some ⟨b2, 0, none⟩) N N) ⟨c0, c1, c2, c3, c4⟩).kept ((Kp.refl _).alloc _))) rfl ?_
  exact ⟨_, _, rfl, hne, n1.mono (by omega), n2.mono (by omega), (t2.kp w K2.out (by omega)).alloc _⟩

set_option maxRecDepth 100000 in
set_option maxHeartbeats 4000000 in
theorem begin_any {w0 w : World} {b : Nat} {T : List Nat} {B : BS} (h : Bw w0 w b T B) (K : Kp w0 w) (L : LB) (S z : Nat) (sv mv : Value) (hs : L.s = S) (hgo : lg L = true) (h1 : Nl w sv L.sts) (h2 : Nl w mv L.mks) (q1 : ∀ q, sv.ownBlock = some q → q ∉ T) (q2 : ∀ q, mv.ownBlock = some q → q ∉ T) (he : L.ep = 1) (i : Nat) (hi : i < B.ms.length) (pw : B.pw = none) (mo : MO (B.ms.getD i noM) z) (hz : 100 + S ≤ z) (hgg : B.g + 1000 < 1000000) :
    Calls Tryz.prog 59 #[.pointer (some ⟨b, 0, none⟩), .int .i64 (i : Int), lV L.n L.s L.ep sv mv] w fun e w' => e = .returned (.int .i64 0) ∧ Nz Bw w0 w w' b T (bgB S (puS L) B i) := by
  have hg : gg L.n S = true := by rw [← hs]; exact ((lg_iff L).1 hgo).1
  obtain ⟨g1, g2, g3, g4⟩ := (gg_iff L.n S).1 hg
  have hf : fdE B (i : Int) = 0 := if_pos ⟨by omega, by omega⟩
  have hmo : MO (bm B (i : Int)) z := by unfold bm; rw [Int.toNat_natCast]; exact mo
  have hEm := fun w' => emptied_any L.n S w' hg
  have hSe := fun w' (k : Nl w' sv L.sts ∧ Nl w' mv L.mks) => sectorOf_any L sv mv w' k.1 k.2 (by omega)
  have hps := pu_size hgo
  have HSt := hid (fun k => @ws_step B (i : Int) ((fmL S).take k) ((fmL S).getD k 0) z pw hf hmo)
  have HBg := hid (@bg_step B i S z (puS L) pw hi mo (by omega) hps)
  have HH := hid h
  have HK := hid K
  have HT : Hid (∀ t, t ∈ T → t < w.heap.size) := OL.bw.low h
  have HTn : Hid (∀ t, t ∈ T → w0.heap.size ≤ t) := OL.bw.new h
  have hN1 := hid h1
  have hN2 := hid h2
  obtain ⟨a1, n1, p1, rfl⟩ : ∃ a n c, sv = .slice a n c := by obtain ⟨a, g, off, cap, rfl, _⟩ := h1; exact ⟨_, _, _, rfl⟩
  obtain ⟨a2, n2, p2, rfl⟩ : ∃ a n c, mv = .slice a n c := by obtain ⟨a, g, off, cap, rfl, _⟩ := h2; exact ⟨_, _, _, rfl⟩
  rw [hs, he]
  rw [hs, he] at hSe
  obtain ⟨P, eP⟩ : ∃ P, P = puS L := ⟨_, rfl⟩
  rw [← eP] at hSe HBg hps ⊢
  unfold lV at hSe ⊢
  unfold gV at hEm
  have hQ1 := hid q1
  have hQ2 := hid q2
  clear h K h1 h2 eP mo hmo q1 q2
  have KA : Hid (Kp w (w.alloc (.cells #[.int .i64 L.n, .int .i64 S, .int .i64 1, .slice a1 n1 p1, .slice a2 n2 p2] 63))) := (Kp.refl w).alloc _
  have LcW : Hid (Lc (w.alloc (.cells #[.int .i64 L.n, .int .i64 S, .int .i64 1, .slice a1 n1 p1, .slice a2 n2 p2] 63)) w.heap.size L.n S 1 (.slice a1 n1 p1) (.slice a2 n2 p2)) := Lc.new w _ _ _ _ _ _
  obtain ⟨W, hW⟩ : ∃ W, W = w.alloc (.cells #[.int .i64 L.n, .int .i64 S, .int .i64 1, .slice a1 n1 p1, .slice a2 n2 p2] 63) := ⟨_, rfl⟩
  have HW := hid hW
  rw [← hW] at KA LcW
  clear hW
  go_enter Tryz.func59, Tryz.ntmps59
  go_upto_region 1 with fail
  rw [← HW.out]
  clear HW
  go_wp2_with fail
  refine (noughts64 _).mono ?_; rintro e u1 ⟨rfl, k1⟩
  obtain ⟨d0, d1, d2, d3, d4⟩ := LcW.out.kept k1
  have K1 : Hid (Kp W u1) := k1
  clear k1
  go_wp2_with fail
  refine (hEm _).mono ?_; rintro e u2 ⟨v, rfl, ho, k2⟩
  have K2 : Hid (Kp W u2) := K1.out.trans k2
  have LcU : Hid (Lc u2 w.heap.size L.n S 1 (.slice a1 n1 p1) (.slice a2 n2 p2)) := LcW.out.kept K2.out
  have K3 : Hid (Kp w u2) := KA.out.trans K2.out
  obtain ⟨va, vg, vc, rfl, vl, vm, vs, vv⟩ := ho.shape
  rw [fmK_len] at vl vs vv
  rw [fmK_len]
  obtain ⟨M, hM⟩ : ∃ M, M = 3 + S := ⟨_, rfl⟩
  rw [← hM] at vl vs vv ⊢
  have Hv : Hid (∀ j, j < M → u2.cell? ⟨vg, j, none⟩ = some (.int .i64 ((fmL S).getD j 0))) := fun j hj => by
    rw [vv j hj]
    unfold fmK
    have : j < (fmL S).length := by rw [fmL_len]; omega
    simp [this]
  obtain ⟨ea, vb, vlt⟩ := vs (by omega)
  subst ea
  have hvT : Hid (vg ∉ T) := fun ht => by
    have := HT.out vg ht
    have := KA.out.size
    have := K1.out.size
    omega
  have hwT : Hid (w.heap.size ∉ T) := fun ht => by have := HT.out _ ht; omega
  have HB2 : Hid (Bw w0 u2 b T B) := OL.bw.sp HH.out (K3.out.sp []) (fun _ _ h => by cases h)
  have HK2 : Hid (Kp w0 u2) := HK.out.trans K3.out
  clear hEm k2 ho vs vv d0 d1 d2 d3 d4 K1
  go_wp2_with fail
  go_loopw [19] (fun j wr => ∃ k : Nat, k ≤ M ∧ j = .int .i64 k ∧ Hid (Nz Bw w0 u2 wr b T (wsB i ((fmL S).take k) B))) (fun j _ => M - (intOf j).toNat)
  case atStart => exact ⟨0, by omega, by go_num, Nz.refl HB2.out⟩
  case round =>
    obtain ⟨k, hk, rfl, HZ⟩ := hrel
    have HKr : Hid (Kp w0 wr) := HZ.out.below OL.bw HB2.out HK2.out
    by_cases hlt : k < M
    · have cv : wr.cell? ⟨vg, k, none⟩ = some (.int .i64 ((fmL S).getD k 0)) := by
        obtain ⟨T', _, s, _⟩ := HZ.out
        exact s.held (Hv.out k hlt) hvT.out
      have hin := fm_in (S := S) (a := (fmL S).getD k 0) (by
        rw [List.getD_eq_getElem?_getD, List.getElem?_eq_getElem (by rw [fmL_len]; omega)]
        exact List.getElem_mem _)
      have hst := HSt.out k (by omega) (by omega)
      obtain ⟨y, ey⟩ : ∃ y, y = (fmL S).getD k 0 := ⟨_, rfl⟩
      rw [← ey] at cv hin hst
      obtain ⟨T', hB, hS, hN⟩ := HZ.out
      have hgk : (wsB i ((fmL S).take k) B).g < 1000000 := by rw [hst.2.2, List.length_take, fmL_len]; omega
      have hWr := bw_write hB HKr.out i y z64 hgk
      rw [hst.1, hst.2.1] at hWr
      have etk : (fmL S).take k ++ [y] = (fmL S).take (k + 1) := by
        rw [ey, List.take_add_one, List.getElem?_eq_getElem (by rw [fmL_len]; omega), List.getD_eq_getElem?_getD, List.getElem?_eq_getElem (by rw [fmL_len]; omega)]
        rfl
      rw [etk] at hWr
      have HZ0 : Hid (Sp T u2 wr ∧ Nw u2 T T') := ⟨hS, hN⟩
      clear HZ hst hgk hin ey etk hB hS hN
      have hcap : k < vc := by omega
      go_wp2_with fail
      refine hWr.mono ?_; rintro e w1 ⟨rfl, n1⟩
      have HZ1 : Hid (Nz Bw w0 u2 w1 b T (wsB i ((fmL S).take (k + 1)) B)) := by
        obtain ⟨T2, o2, s2, w2⟩ := n1
        exact ⟨T2, o2, HZ0.out.1.then s2 HZ0.out.2, HZ0.out.2.trans w2 HZ0.out.1.size⟩
      clear n1 hWr HZ0 cv
      go_wp2
      go_roundw
      case rel => exact ⟨k + 1, by omega, by go_num, HZ1⟩
      case measure => simp [intOf]; omega
    · have ek : k = M := by omega
      have HZ1 : Hid (Nz Bw w0 u2 wr b T (wsB i (fmL S) B)) := by
        have := HZ.out
        rw [ek, List.take_of_length_le (by rw [fmL_len]; omega)] at this
        exact this
      clear HZ
      obtain ⟨T', hB, hS, hN⟩ := HZ1.out
      have NN : Nl wr (.slice a1 n1 p1) L.sts ∧ Nl wr (.slice a2 n2 p2) L.mks := ⟨(hN1.out.kept K3.out).sp hS hQ1.out, (hN2.out.kept K3.out).sp hS hQ2.out⟩
      have hS1 := hSe wr NN
      have HB1 := hid hB
      have HS1 : Hid (Sp T u2 wr ∧ Nw u2 T T') := ⟨hS, hN⟩
      obtain ⟨d0, d1, d2, d3, d4⟩ : Lc wr w.heap.size L.n S 1 (.slice a1 n1 p1) (.slice a2 n2 p2) := ⟨hS.held LcU.out.c0 hwT.out, hS.held LcU.out.c1 hwT.out, hS.held LcU.out.c2 hwT.out, hS.held LcU.out.c3 hwT.out, hS.held LcU.out.c4 hwT.out⟩
      clear NN hSe hB hS hN HZ1 Hv
      go_wp2_with fail
      refine hS1.mono ?_; rintro e w1 ⟨rfl, k1⟩
      have HBb : Hid (Bw w0 w1 b T' (wsB i (fmL S) B)) := OL.bw.sp HB1.out (k1.sp []) (fun _ _ h => by cases h)
      have HKb : Hid (Kp w0 w1) := HKr.out.trans k1
      have HSb : Hid (Sp T u2 w1 ∧ Nw u2 T T') := ⟨HS1.out.1.trans (k1.sp _), HS1.out.2⟩
      have hw1 := bw_write HBb.out HKb.out i 1 P (by have := HBg.out.2.2; rw [(opS_len _ _ _).2] at this; omega)
      rw [HBg.out.1] at hw1
      clear HB1 HS1 k1 hS1 d0 d1 d2 d3 d4 HKr
      go_wp2_with fail
      refine hw1.mono ?_; rintro e w2 ⟨rfl, n2⟩
      have HKc : Hid (Kp w0 w2) := n2.below OL.bw HBb.out HKb.out
      obtain ⟨T2, o2, s2, nn2⟩ := n2
      have hfl := bw_flush o2 HKc.out i (by rw [HBg.out.2.2]; omega)
      rw [HBg.out.2.1] at hfl
      have HSc : Hid (Sp T u2 w2 ∧ Nw u2 T T2) := ⟨HSb.out.1.then s2 HSb.out.2, HSb.out.2.trans nn2 HSb.out.1.size⟩
      clear hw1 o2 s2 nn2 HSb HBb
      go_wp2_with fail
      refine hfl.mono ?_; rintro e w3 ⟨rfl, n3⟩
      have HF : Hid (Nz Bw w0 w w3 b T (bgB S P B i)) := by
        obtain ⟨T3, o3, s3, nn3⟩ := n3
        exact ⟨T3, o3, (K3.out.sp T).trans (HSc.out.1.then s3 HSc.out.2), fun t ht => ((HSc.out.2.trans nn3 HSc.out.1.size) t ht).imp id (fun h => Nat.le_trans K3.out.size h)⟩
      clear n3 hfl HSc
      go_wp2
      go_ret
      exact ⟨rfl, HF.out⟩

end Go.Proofs.YtinpkfdmellleaaGreat

namespace Go.Proofs.YtinpkfdmellleaaGreat
open Go.RowKit Plain
set_option linter.unusedVariables false

theorem lv_full : ∀ (L : List MS) (i : Nat), ¬ (lvL i L).length < L.length → ∀ S ∈ L, S.dead = false
  | [], _, _, _, h => by cases h
  | S :: L, i, hl, R, hR => by
    have h1 := lvL_len L (i + 1)
    cases hd : S.dead with
    | true =>
      simp only [lvL, hd, if_true, List.length_cons] at hl
      omega
    | false =>
      have ih := lv_full L (i + 1) (by
        simp only [lvL, hd, List.length_cons, Bool.false_eq_true, if_false] at hl
        omega)
      rcases List.mem_cons.1 hR with h | h
      · rw [h]; exact hd
      · exact ih R h
theorem all_mo {B : BS} {z : Nat} (ev : Ev B z) (h : ¬ (lvL 0 B.ms).length < B.ms.length) (i : Nat) (hi : i < B.ms.length) : MO (B.ms.getD i noM) z := by
  refine ⟨lv_full B.ms 0 h _ ?_, ev i hi⟩
  rw [List.getD_eq_getElem?_getD, List.getElem?_eq_getElem hi]
  exact List.getElem_mem hi
theorem new_good {n s : Int} (h : gg n s = true) : lg (newL n s) = true := by
  obtain ⟨g1, g2, g3, g4⟩ := (gg_iff n s).1 h
  refine (lg_iff _).2 ⟨h, by show (1 : Int) ≤ 1; omega, by show (1 : Int) ≤ 9007199254740992; omega, ?_, ?_, ?_⟩
  · show ((List.replicate n.toNat (0 : Int)).length : Int) = n; rw [List.length_replicate]; omega
  · show ((List.replicate n.toNat (0 : Int)).length : Int) = n; rw [List.length_replicate]; omega
  · refine (mg_iff _ _).2 fun i hi => ?_
    have e : (List.replicate n.toNat (0 : Int)).getD i 0 = 0 := by
      rw [List.getD_eq_getElem?_getD, List.getElem?_replicate]
      split <;> rfl
    show mh ((List.replicate n.toNat (0 : Int)).getD i 0) ((List.replicate n.toNat (0 : Int)).getD i 0) s = true
    rw [e]
    exact mh_of (by omega) (by omega) (by omega) (by omega) (fun h => by omega)
theorem range_rep (N : Nat) : (List.range N).map (fun _ => (0 : Int)) = List.replicate N 0 := by
  rw [List.map_const', List.length_range]

set_option maxRecDepth 100000 in
set_option maxHeartbeats 4000000 in
theorem format_any {w0 w : World} {b : Nat} {T : List Nat} {B : BS} (h : Bw w0 w b T B) (K : Kp w0 w) (n s : Int) {z : Nat} (ev : Ev B z) (pw : B.pw = none) (hgg : B.g + 10000 < 1000000) :
    Calls Tryz.prog 19 #[.pointer (some ⟨b, 0, none⟩), gV n s] w fun e w' => e = .returned (.int .i64 (fmE B n s)) ∧ Nz Bw w0 w w' b T (fmS B n s) := by
  have hgd := h.gd
  cases e1 : gg n s with
  | false =>
    have hN := fun w' => new_anyL9 n s w'
    rw [e1] at hN
    simp only [Bool.false_eq_true, if_false] at hN
    have eE : fmE B n s = 4 := if_neg (by rw [e1]; simp)
    have eS : fmS B n s = B := if_neg (by rw [eE]; omega)
    rw [eE, eS]
    unfold gV at hN ⊢
    unfold lV at hN
    go_enter Tryz.func19, Tryz.ntmps19
    go_wp2_with fail
    refine (hN _).mono ?_; rintro e w1 ⟨sv, mv, rfl, _, k1⟩
    have HF : Hid (Kp w w1) := ((Kp.refl w).alloc _).trans k1
    clear k1 hN
    go_wp2
    go_ret
    exact ⟨rfl, Nz.kp OL.bw (Nz.refl h) (HF.out.alloc _)⟩
  | true =>
    obtain ⟨g1, g2, g3, g4⟩ := (gg_iff n s).1 e1
    obtain ⟨N, rfl⟩ : ∃ N : Nat, n = N := ⟨n.toNat, by omega⟩
    obtain ⟨S, rfl⟩ : ∃ S : Nat, s = S := ⟨s.toNat, by omega⟩
    have hNw := fun w' => newF_any N S e1 w'
    have hFt := fun w' (k : Kp w w') => fits_any (OL.bw.sp h (k.sp []) (fun _ _ h => by cases h)) ev N S e1
    have HFt := hid hFt
    have HH := hid h
    have HK := hid K
    have HT : Hid (∀ t, t ∈ T → t < w.heap.size) := OL.bw.low h
    have HTn : Hid (∀ t, t ∈ T → w0.heap.size ≤ t) := OL.bw.new h
    have hgo := hid (new_good e1)
    have HE : Hid (fmE B N S = if ftB B N S = true then (if (lvL 0 B.ms).length < B.ms.length then 20 else 0) else 2) := if_pos e1
    obtain ⟨E, eE⟩ : ∃ E, E = fmE B N S := ⟨_, rfl⟩
    have hbl : B.ms.length ≤ 32 := hgd.n2
    rw [← eE]
    have HEE : Hid (E = fmE B N S) := eE
    rw [← eE] at HE
    clear eE hFt h K
    unfold gV lV at hNw
    unfold gV at HFt ⊢
    go_enter Tryz.func19, Tryz.ntmps19
    go_wp2_with fail
    refine (hNw _).mono ?_; rintro e u1 ⟨b1, b2, rfl, hne, f1, f2, k1⟩
    have K1 : Hid (Kp w u1) := ((Kp.refl w).alloc _).trans k1
    have hbx : u1.cell? ⟨w.heap.size, 0, none⟩ = some (.int .i64 N) ∧ u1.cell? ⟨w.heap.size, 1, none⟩ = some (.int .i64 S) := ⟨k1.held (by rw [World.cell?_alloc_at _ _ _ _ rfl]; rfl), k1.held (by rw [World.cell?_alloc_at _ _ _ _ rfl]; rfl)⟩
    have hbT : Hid (b1 ∉ T ∧ b2 ∉ T) := by
      have l1 := (World.ownsRow.lt f1 b1 rfl).1
      have l2 := (World.ownsRow.lt f2 b2 rfl).1
      simp only [asz] at l1 l2
      exact ⟨fun ht => by have := HT.out _ ht; omega, fun ht => by have := HT.out _ ht; omega⟩
    have NL : Hid (Nl u1 (.slice (some ⟨b1, 0, none⟩) N N) (newL N S).sts ∧ Nl u1 (.slice (some ⟨b2, 0, none⟩) N N) (newL N S).mks) := by
      have m1 := f1.nums
      have m2 := f2.nums
      rw [range_rep] at m1 m2
      exact ⟨m1, m2⟩
    have hls : Hid (b1 < u1.heap.size ∧ b2 < u1.heap.size) := ⟨(World.ownsRow.lt f1 b1 rfl).2, (World.ownsRow.lt f2 b2 rfl).2⟩
    clear hNw k1 f1 f2
    have KU : Hid (Kp u1 (u1.alloc (.cells #[.int .i64 N, .int .i64 S, .int .i64 1, .slice (some ⟨b1, 0, none⟩) N N, .slice (some ⟨b2, 0, none⟩) N N] 63))) := (Kp.refl u1).alloc _
    have LU : Hid (Lc (u1.alloc (.cells #[.int .i64 N, .int .i64 S, .int .i64 1, .slice (some ⟨b1, 0, none⟩) N N, .slice (some ⟨b2, 0, none⟩) N N] 63)) u1.heap.size N S 1 (.slice (some ⟨b1, 0, none⟩) N N) (.slice (some ⟨b2, 0, none⟩) N N)) := Lc.new u1 _ _ _ _ _ _
    obtain ⟨U, hU⟩ : ∃ U, U = u1.alloc (.cells #[.int .i64 N, .int .i64 S, .int .i64 1, .slice (some ⟨b1, 0, none⟩) N N, .slice (some ⟨b2, 0, none⟩) N N] 63) := ⟨_, rfl⟩
    have HU := hid hU
    rw [← hU] at KU LU
    clear hU
    go_upto_region 6 with fail
    rw [← HU.out]
    clear HU
    have KwU : Hid (Kp w U) := K1.out.trans KU.out
    have c0 := KU.out.held hbx.1
    have c1 := KU.out.held hbx.2
    have hF1 := HFt.out U KwU.out
    obtain ⟨D, hD⟩ : ∃ D, D = ftB B N S := ⟨_, rfl⟩
    rw [← hD] at hF1 HE
    have HDD := hid hD
    clear hD HFt hbx
    go_wp2_with fail
    refine hF1.mono ?_; rintro e u2 ⟨rfl, k2⟩
    have K2 : Hid (Kp w u2) := KwU.out.trans k2
    have c0' := k2.held c0
    have LU2 : Hid (Lc u2 u1.heap.size N S 1 (.slice (some ⟨b1, 0, none⟩) N N) (.slice (some ⟨b2, 0, none⟩) N N)) := LU.out.kept k2
    have KU2 : Hid (Kp U u2) := k2
    clear k2 hF1 c0 c1
    have HB2 : Hid (Bw w0 u2 b T B) := OL.bw.sp HH.out (K2.out.sp []) (fun _ _ h => by cases h)
    cases D with
    | false =>
      have hE := HE.out
      rw [if_neg (by simp)] at hE
      have HS : Hid (fmS B N S = B) := if_neg (by rw [← HEE.out, hE]; omega)
      subst hE
      go_wp2
      go_ret
      exact ⟨rfl, by rw [HS.out]; exact Nz.kp OL.bw (Nz.refl HH.out) K2.out⟩
    | true =>
      have hE := HE.out
      rw [if_pos rfl] at hE
      have hE1 := hid hE
      clear hE HE
      have hL := bw_live HB2.out
      obtain ⟨M, hM⟩ : ∃ M, M = B.ms.length := ⟨_, rfl⟩
      obtain ⟨R, hR⟩ : ∃ R, R = (lvL 0 B.ms).length := ⟨_, rfl⟩
      have hR2 := lvL_len B.ms 0
      have HM := hid hM
      have HR := hid hR
      rw [← hM, ← hR] at hR2
      rw [← hM] at hbl
      clear hM hR
      go_wp2_with fail
      refine hL.mono ?_; rintro e u3 ⟨v, rfl, hv, hB3, s3⟩
      have hsz := bw_size hB3
      obtain ⟨va, vg, vc, rfl, vl, vm, _, _⟩ := hv
      rw [← HR.out] at vl ⊢
      rw [← HM.out] at hsz
      have HB3 := hid hB3
      have HS3 := hid s3
      have hwT : Hid (w.heap.size ∉ T) := fun ht => by have := HT.out _ ht; omega
      have c3 := s3.held c0' hwT.out
      clear hL hB3 s3 c0'
      go_wp2_with fail
      refine hsz.mono ?_; rintro e u4 ⟨rfl, hu4⟩
      subst u4
      have HN3 : Hid (Nz Bw w0 w u3 b T B) := ⟨T, HB3.out, (K2.out.sp T).trans HS3.out, Nw.refl _ _⟩
      by_cases hlt : R < M
      · have hE := hE1.out
        rw [if_pos (by rw [← HM.out, ← HR.out]; exact hlt)] at hE
        have HS : Hid (fmS B N S = B) := if_neg (by rw [← HEE.out, hE]; omega)
        subst hE
        clear hsz
        go_wp2
        go_ret
        exact ⟨rfl, by rw [HS.out]; exact HN3.out⟩
      · have hE := hE1.out
        rw [if_neg (by rw [← HM.out, ← HR.out]; exact hlt)] at hE
        have HS : Hid (fmS B N S = fmB N S (puS (newL N S)) B) := by
          show fmS B N S = _
          unfold fmS
          rw [if_pos (by rw [← HEE.out]; exact hE), Int.toNat_natCast, Int.toNat_natCast]
        have hMN : M = N ∧ 100 + S ≤ z := by
          have h1 := HDD.out
          unfold ftB at h1
          have h2 := of_decide_eq_true h1.symm
          rw [← HM.out] at h2
          refine ⟨by omega, ?_⟩
          have := (ev 0 (by rw [← HM.out]; omega)).1
          omega
        have HMo : Hid (∀ i, i < M → MO (B.ms.getD i noM) z) := fun i hi => all_mo ev (by rw [← HM.out, ← HR.out]; exact hlt) i (by rw [← HM.out]; exact hi)
        obtain ⟨rfl, hz⟩ := hMN
        subst hE
        have HK3 : Hid (Kp w0 u3) := Sp.kp (HK.out.trans K2.out) HS3.out HTn.out
        have hbT' : Hid (u1.heap.size ∉ T) := fun ht => by have := HT.out _ ht; have := K1.out.size; omega
        have hsz3 : Hid (b1 < u3.heap.size ∧ b2 < u3.heap.size ∧ u1.heap.size < u3.heap.size) := by
          have h1 := KU.out.size
          have h2 := KU2.out.size
          have h3 := HS3.out.size
          have h4 := hls.out
          have h5 := World.block_lt_of_cell? _ _ LU.out.c0
          simp only at h5
          exact ⟨by omega, by omega, by omega⟩
        have NL3 : Hid (Nl u3 (.slice (some ⟨b1, 0, none⟩) M M) (newL M S).sts ∧ Nl u3 (.slice (some ⟨b2, 0, none⟩) M M) (newL M S).mks) := by
          have k := KU.out.trans KU2.out
          refine ⟨(NL.out.1.kept k).sp HS3.out (fun q hq => ?_), (NL.out.2.kept k).sp HS3.out (fun q hq => ?_)⟩
          · have : b1 = q := by injection hq
            rw [← this]; exact hbT.out.1
          · have : b2 = q := by injection hq
            rw [← this]; exact hbT.out.2
        have LU3 : Hid (Lc u3 u1.heap.size M S 1 (.slice (some ⟨b1, 0, none⟩) M M) (.slice (some ⟨b2, 0, none⟩) M M)) := ⟨HS3.out.held LU2.out.c0 hbT'.out, HS3.out.held LU2.out.c1 hbT'.out, HS3.out.held LU2.out.c2 hbT'.out, HS3.out.held LU2.out.c3 hbT'.out, HS3.out.held LU2.out.c4 hbT'.out⟩
        clear hsz NL LU LU2 KU KU2 K1 HB2 HS3 K2 KwU HDD hls
        go_wp2_with fail
        go_loopw [31] (fun j wr => ∃ k : Nat, k ≤ M ∧ j = .int .i64 k ∧ Hid (Nz Bw w0 u3 wr b T ((List.range k).foldl (bgB S (puS (newL M S))) B))) (fun j _ => M - (intOf j).toNat)
        case atStart => exact ⟨0, by omega, by go_num, Nz.refl HB3.out⟩
        case round =>
          clear c3
          obtain ⟨k, hk, rfl, HZ⟩ := hrel
          have HKr : Hid (Kp w0 wr) := HZ.out.below OL.bw HB3.out HK3.out
          by_cases hlt2 : k < M
          · obtain ⟨T', hB, hS, hNw⟩ := HZ.out
            obtain ⟨ms, m1, m2, m3⟩ := fm_B (s := S) (p := puS (newL M S)) pw k (by rw [← HM.out]; omega)
            have hms : ((List.range k).foldl (bgB S (puS (newL M S))) B).ms = ms := by rw [m1]
            have hkS : k * (S + 5) ≤ 32 * 69 := Nat.mul_le_mul (by omega) (by omega)
            have NN : Nl wr (.slice (some ⟨b1, 0, none⟩) M M) (newL M S).sts ∧ Nl wr (.slice (some ⟨b2, 0, none⟩) M M) (newL M S).mks := by
              refine ⟨NL3.out.1.sp hS (fun q hq => ?_), NL3.out.2.sp hS (fun q hq => ?_)⟩
              · have : b1 = q := by injection hq
                rw [← this]; exact hbT.out.1
              · have : b2 = q := by injection hq
                rw [← this]; exact hbT.out.2
            have hBg := begin_any hB HKr.out (newL M S) S z (.slice (some ⟨b1, 0, none⟩) M M) (.slice (some ⟨b2, 0, none⟩) M M) rfl hgo.out NN.1 NN.2 (fun q hq => by
                have : b1 = q := by injection hq
                rw [← this]; exact nw_nt hNw hsz3.out.1 hbT.out.1) (fun q hq => by
                have : b2 = q := by injection hq
                rw [← this]; exact nw_nt hNw hsz3.out.2.1 hbT.out.2) rfl k (by rw [hms, m2, ← HM.out]; exact hlt2) (by rw [m1]) (by
                rw [hms, m3 k, if_neg (by omega)]
                exact HMo.out k hlt2) hz (by rw [m1]; show B.g + k * (S + 5) + 1000 < 1000000; omega)
            have HZ0 : Hid (Sp T u3 wr ∧ Nw u3 T T') := ⟨hS, hNw⟩
            obtain ⟨d0, d1, d2, d3, d4⟩ : Lc wr u1.heap.size M S 1 (.slice (some ⟨b1, 0, none⟩) M M) (.slice (some ⟨b2, 0, none⟩) M M) := ⟨hS.held LU3.out.c0 hbT'.out, hS.held LU3.out.c1 hbT'.out, hS.held LU3.out.c2 hbT'.out, hS.held LU3.out.c3 hbT'.out, hS.held LU3.out.c4 hbT'.out⟩
            have hbg : bgB S (puS (newL M S)) ((List.range k).foldl (bgB S (puS (newL M S))) B) k = (List.range (k + 1)).foldl (bgB S (puS (newL M S))) B := by rw [List.range_succ, List.foldl_append]; rfl
            rw [hbg] at hBg
            unfold lV at hBg
            change Calls _ _ #[_, _, .agg #[.int .i64 (M : Int), .int .i64 (S : Int), .int .i64 1, _, _]] _ _ at hBg
            clear HZ hms NN hbg m1 m2 m3 hB hS hNw
            go_wp2_with fail
            refine hBg.mono ?_; rintro e w1 ⟨rfl, n1⟩
            have HZ1 : Hid (Nz Bw w0 u3 w1 b T ((List.range (k + 1)).foldl (bgB S (puS (newL M S))) B)) := by
              obtain ⟨T2, o2, s2, w2⟩ := n1
              exact ⟨T2, o2, HZ0.out.1.then s2 HZ0.out.2, HZ0.out.2.trans w2 HZ0.out.1.size⟩
            clear n1 hBg HZ0 d0 d1 d2 d3 d4
            go_wp2
            go_roundw
            case rel => exact ⟨k + 1, by omega, by go_num, HZ1⟩
            case measure => simp [intOf]; omega
          · have ek : k = M := by omega
            have HF : Hid (Nz Bw w0 w wr b T (fmS B M S)) := by
              have h1 := HZ.out
              rw [ek] at h1
              obtain ⟨T3, o3, s3, nn3⟩ := h1
              obtain ⟨T4, o4, s4, nn4⟩ := HN3.out
              show Nz Bw w0 w wr b T (fmS B M S)
              rw [HS.out]
              have hq := HN3.out
              obtain ⟨T5, _, s5, _⟩ := hq
              exact ⟨T3, o3, s5.trans s3, fun t ht => (nn3 t ht).imp id (fun h => Nat.le_trans s5.size h)⟩
            clear HZ
            go_wp2
            go_ret
            exact ⟨rfl, HF.out⟩

end Go.Proofs.YtinpkfdmellleaaGreat

namespace Go.Proofs.YtinpkfdmellleaaGreat
open Go.RowKit Plain
set_option linter.unusedVariables false

set_option maxRecDepth 100000 in
theorem full_any {w0 w : World} {x b : Nat} {T : List Nat} {K : KS} {sv mv : Value} (h : KX w0 w x b T K sv mv) (he : K.l.ep < 9007199254740992) : Calls Tryz.prog 82 #[.pointer (some ⟨x, 0, none⟩)] w fun e w' => e = .returned (.bool false) ∧ w' = w := by
  have c3 := h.c3
  have hne : ¬ 9007199254740992 ≤ K.l.ep := by omega
  clear h
  go_enter Tryz.func82, Tryz.ntmps82
  go_wp2
  go_ret
  exact ⟨by first | rfl | simp [hne], rfl⟩
theorem p1_g (a : Int) (s : ByteArray) (r : BS × Bool) (i : Nat) : (p1 a s r i).1.g ≤ r.1.g + 2 ∧ (p1 a s r i).1.ms.length = r.1.ms.length := by
  unfold p1
  split
  · exact ⟨by omega, rfl⟩
  · split
    · simp only [(opS_len _ _ _).1, (opS_len _ _ _).2]; exact ⟨by omega, trivial⟩
    · simp only [(opS_len _ _ _).1, (opS_len _ _ _).2]; exact ⟨by omega, trivial⟩
theorem pb_g (a : Int) (s : ByteArray) : ∀ (l : List Nat) (r : BS × Bool), (l.foldl (p1 a s) r).1.g ≤ r.1.g + 2 * l.length ∧ (l.foldl (p1 a s) r).1.ms.length = r.1.ms.length
  | [], r => ⟨by simp, rfl⟩
  | i :: l, r => by
    have h1 := pb_g a s l (p1 a s r i)
    have h2 := p1_g a s r i
    rw [List.foldl_cons, List.length_cons]
    exact ⟨by omega, h1.2.trans h2.2⟩
theorem pbF_g (a : Int) (s : ByteArray) (l : List Nat) (B : BS) : (pbF a s l B).1.g ≤ B.g + 2 * l.length ∧ (pbF a s l B).1.ms.length = B.ms.length := pb_g a s l (B, false)
/-- a round that a dead member passes by. -/
theorem pb_dead {a : Int} {s : ByteArray} {B : BS} {k : Nat} (hk : k < B.ms.length) (hd : ddB B k = true) : pbF a s (lvL 0 (B.ms.take (k + 1))) B = pbF a s (lvL 0 (B.ms.take k)) B := by
  rw [lvL_take B.ms k hk]
  unfold ddB at hd
  rw [hd, if_pos rfl]
theorem pb_live {a : Int} {s : ByteArray} {B : BS} {k : Nat} (hk : k < B.ms.length) (hd : ddB B k = false) : pbF a s (lvL 0 (B.ms.take (k + 1))) B = p1 a s (pbF a s (lvL 0 (B.ms.take k)) B) k := by
  rw [lvL_take B.ms k hk]
  unfold ddB at hd
  rw [hd, if_neg (by simp), pbF_snoc]
theorem p1_w {a : Int} {s : ByteArray} {r : BS × Bool} {i : Nat} (h : r.2 = false) (he : opE r.1 i (fun S => wrE S a s) = 21) : p1 a s r i = (opS r.1 i (fun S => wr S a s), true) := by
  unfold p1; rw [if_neg (by rw [h]; simp), if_pos he]
theorem p1_f {a : Int} {s : ByteArray} {r : BS × Bool} {i : Nat} (h : r.2 = false) (he : opE r.1 i (fun S => wrE S a s) ≠ 21) : p1 a s r i = (opS (opS r.1 i (fun S => wr S a s)) i fl, decide (opE (opS r.1 i (fun S => wr S a s)) i flE = 21)) := by
  unfold p1; rw [if_neg (by rw [h]; simp), if_neg he]
theorem pb_end {a : Int} {s : ByteArray} {B : BS} {k : Nat} (h : (pbF a s (lvL 0 (B.ms.take k)) B).2 = true) : pbF a s (lvL 0 B.ms) B = pbF a s (lvL 0 (B.ms.take k)) B := by
  obtain ⟨r, hr⟩ := lvL_pre B.ms k
  rw [hr]; exact pbF_stop a s _ _ B h

set_option maxRecDepth 100000 in
set_option maxHeartbeats 4000000 in
theorem publish_l {w0 w : World} {x b : Nat} {T : List Nat} {K : KS} {sv mv : Value} (h : KX w0 w x b T K sv mv) (hK : Kp w0 w) (M : LB) (u1 u2 : Value) (hn : (K.b.ms.length : Int) = M.n) (m1 : Nl w u1 M.sts) (m2 : Nl w u2 M.mks) (r1 : ∀ q, u1.ownBlock = some q → q ∉ x :: T ∧ q < w.heap.size) (r2 : ∀ q, u2.ownBlock = some q → q ∉ x :: T ∧ q < w.heap.size) (he0 : 0 ≤ K.l.ep) (he : K.l.ep < 9007199254740992) (hg : K.b.g + 100 < 1000000) :
    Calls Tryz.prog 67 #[.pointer (some ⟨x, 0, none⟩), lV M.n M.s M.ep u1 u2] w fun e w' => e = .returned (.int .i64 (puE' K M)) ∧ Kl w0 w w' x b T (puK K M) (lbs sv mv ++ lbs u1 u2) ∧ (puE' K M = 0 → ∃ T', KX w0 w' x b T' (puK K M) u1 u2 ∧ Sp (x :: T) w w' ∧ Nw w T T') := by
  have hgd := h.bay.gd
  obtain ⟨B, L⟩ := K
  obtain ⟨n, s, ep, sts, mks⟩ := M
  obtain ⟨a1, n1, cp1, rfl⟩ : ∃ a n c, u1 = .slice a n c := by obtain ⟨a, g, off, cap, rfl, _⟩ := m1; exact ⟨_, _, _, rfl⟩
  obtain ⟨a2, n2, cp2, rfl⟩ : ∃ a n c, u2 = .slice a n c := by obtain ⟨a, g, off, cap, rfl, _⟩ := m2; exact ⟨_, _, _, rfl⟩
  dsimp only at hn m1 m2 he0 he hg hgd
  have hSe := fun w' (k : Kp w w') => sectorOf_any ⟨n, s, L.ep + 1, sts, mks⟩ (.slice a1 n1 cp1) (.slice a2 n2 cp2) w' (m1.kept k) (m2.kept k) (by dsimp only; omega)
  have hFu := fun w' (k : Kp w w') => full_any (h.kp k) (by dsimp only; exact he)
  obtain ⟨N, hN⟩ : ∃ N, N = B.ms.length := ⟨_, rfl⟩
  have HN := hid hN
  have hb2 := hgd.n2
  rw [← hN] at hn hb2
  clear hN hgd
  subst hn
  obtain ⟨P, hP⟩ : ∃ P, P = puS ⟨N, s, L.ep + 1, sts, mks⟩ := ⟨_, rfl⟩
  obtain ⟨A, hA⟩ : ∃ A, A = (L.ep + 1) % 2 := ⟨_, rfl⟩
  dsimp only at hSe
  rw [← hP, ← hA] at hSe
  have HR : Hid (pbR ⟨B, L⟩ ⟨N, s, ep, sts, mks⟩ = pbF A P (lvL 0 B.ms) B) := by rw [hP, hA]; rfl
  clear hP hA
  have HH := hid h
  have HK := hid hK
  have HM1 := hid m1
  have HM2 := hid m2
  have HR1 := hid r1
  have HR2 := hid r2
  have c3 := h.c3
  dsimp only at c3
  clear h hK m1 m2 r1 r2
  unfold lV at hSe ⊢
  have KA : Kp w (w.alloc (.cells #[.int .i64 N, .int .i64 s, .int .i64 ep, .slice a1 n1 cp1, .slice a2 n2 cp2] 63)) := (Kp.refl w).alloc _
  have LA : Lc (w.alloc (.cells #[.int .i64 N, .int .i64 s, .int .i64 ep, .slice a1 n1 cp1, .slice a2 n2 cp2] 63)) w.heap.size N s ep (.slice a1 n1 cp1) (.slice a2 n2 cp2) := Lc.new w _ _ _ _ _ _
  have hF1 := hFu _ KA
  have c3' := KA.held c3
  have LB1 : Hid (Lc (w.alloc (.cells #[.int .i64 N, .int .i64 s, .int .i64 (L.ep + 1), .slice a1 n1 cp1, .slice a2 n2 cp2] 63)) w.heap.size N s (L.ep + 1) (.slice a1 n1 cp1) (.slice a2 n2 cp2)) := Lc.new w _ _ _ _ _ _
  have KB : Hid (Kp w (w.alloc (.cells #[.int .i64 N, .int .i64 s, .int .i64 (L.ep + 1), .slice a1 n1 cp1, .slice a2 n2 cp2] 63))) := (Kp.refl w).alloc _
  obtain ⟨W, hW⟩ : ∃ W, W = w.alloc (.cells #[.int .i64 N, .int .i64 s, .int .i64 (L.ep + 1), .slice a1 n1 cp1, .slice a2 n2 cp2] 63) := ⟨_, rfl⟩
  have HW := hid hW
  rw [← hW] at LB1 KB
  clear hFu KA hW LA
  go_enter Tryz.func67, Tryz.ntmps67
  go_wp2_with fail
  refine hF1.mono ?_; rintro e v1 ⟨rfl, rfl⟩
  go_upto_region 4 with fail
  rw [← HW.out]
  clear HW c3 c3' hF1
  obtain ⟨d0, d1, d2, d3, d4⟩ := LB1.out
  have hS1 := hSe W KB.out
  clear hSe
  go_wp2_with fail
  refine hS1.mono ?_; rintro e v2 ⟨rfl, k2⟩
  have K2 : Hid (Kp w v2) := KB.out.trans k2
  have L2 : Hid (Lc v2 w.heap.size N s (L.ep + 1) (.slice a1 n1 cp1) (.slice a2 n2 cp2)) := LB1.out.kept k2
  have X2 := hid (HH.out.kp K2.out)
  have HT : Hid (∀ t, t ∈ T → t < w.heap.size) := OL.bw.low HH.out.bay
  have HTn : Hid (∀ t, t ∈ T → w0.heap.size ≤ t) := OL.bw.new HH.out.bay
  have hwT : Hid (w.heap.size ∉ T) := fun ht => by have := HT.out _ ht; omega
  have hLv := bw_live X2.out.bay
  have e0 := X2.out.c0
  clear k2 hS1 d0 d1 d2 d3 d4 LB1
  go_wp2_with fail
  refine hLv.mono ?_; rintro e v3 ⟨lv, rfl, hl, hB3, s3⟩
  have HL : Hid (Lv v2 v3 lv (lvL 0 B.ms)) := hl
  have HS3 : Hid (Sp T v2 v3) := s3
  have X3 : Hid (KX w0 v3 x b T ⟨B, L⟩ sv mv) := X2.out.bayX hB3 s3 (Nw.refl _ _)
  have HK3 : Hid (Kp w0 v3) := Sp.kp (HK.out.trans K2.out) s3 HTn.out
  obtain ⟨d0, d1, d2, d3, d4⟩ : Lc v3 w.heap.size N s (L.ep + 1) (.slice a1 n1 cp1) (.slice a2 n2 cp2) := ⟨s3.held L2.out.c0 hwT.out, s3.held L2.out.c1 hwT.out, s3.held L2.out.c2 hwT.out, s3.held L2.out.c3 hwT.out, s3.held L2.out.c4 hwT.out⟩
  have L3 : Hid (Lc v3 w.heap.size N s (L.ep + 1) (.slice a1 n1 cp1) (.slice a2 n2 cp2)) := ⟨d0, d1, d2, d3, d4⟩
  have M1 : Hid (Nl v3 (.slice a1 n1 cp1) sts) := (HM1.out.kept K2.out).sp s3 (fun q hq hm => (HR1.out q hq).1 (List.mem_cons_of_mem _ hm))
  have M2 : Hid (Nl v3 (.slice a2 n2 cp2) mks) := (HM2.out.kept K2.out).sp s3 (fun q hq hm => (HR2.out q hq).1 (List.mem_cons_of_mem _ hm))
  have hs3 : Hid (w.heap.size < v3.heap.size) := World.block_lt_of_cell? _ _ d0
  obtain ⟨la, lg_, lc, hlv⟩ : ∃ a n c, lv = .slice a n c := by obtain ⟨a, g, cap, h1, _⟩ := hl; exact ⟨_, _, _, h1⟩
  subst hlv
  clear hl hB3 hLv e0 HM1 HM2 L2
  go_wp2_with fail
  go_loopw [31] (fun j wr => ∃ k : Nat, k ≤ N ∧ j = .int .i64 k ∧ Hid ((pbF A P (lvL 0 (B.ms.take k)) B).2 = false) ∧ Hid (Nz Bw w0 v3 wr b T (pbF A P (lvL 0 (B.ms.take k)) B).1)) (fun j _ => N - (intOf j).toNat)
  case atStart => exact ⟨0, by omega, by go_num, rfl, Nz.refl X3.out.bay⟩
  case round =>
    clear d0 d1 d2 d3 d4
    obtain ⟨k, hk, rfl, HF, HZ⟩ := hrel
    have HKr : Hid (Kp w0 wr) := HZ.out.below OL.bw X3.out.bay HK3.out
    by_cases hlt : k < N
    · have hkB : k < B.ms.length := by rw [← HN.out]; exact hlt
      have hC := has_any v2 (.slice la lg_ lc) (lvL 0 B.ms) (k : Int) wr (by
        obtain ⟨T', _, s, _⟩ := HZ.out
        exact HL.out.sp s (fun t ht => .inl (by have := HT.out t ht; have := K2.out.size; omega))) (by have := lvL_len B.ms 0; have := HN.out; omega)
      rw [lv_has B k hkB] at hC
      obtain ⟨dd, hdd⟩ : ∃ d, d = ddB B k := ⟨_, rfl⟩
      rw [← hdd] at hC
      cases dd with
      | true =>
        have ed := pb_dead (a := A) (s := P) hkB hdd.symm
        have HF1 : Hid ((pbF A P (lvL 0 (B.ms.take (k + 1))) B).2 = false) := by rw [ed]; exact HF
        have HZ1 : Hid (Nz Bw w0 v3 wr b T (pbF A P (lvL 0 (B.ms.take (k + 1))) B).1) := by rw [ed]; exact HZ
        clear hdd ed HF HZ
        go_wp2_with fail
        refine hC.mono ?_; rintro e y1 ⟨rfl, hy⟩
        subst y1
        clear hC
        go_wp2
        go_roundw
        case rel => exact ⟨k + 1, by omega, by go_num, HF1, HZ1⟩
        case measure => simp [intOf]; omega
      | false =>
        have ed := pb_live (a := A) (s := P) hkB hdd.symm
        have hgl := pbF_g A P (lvL 0 (B.ms.take k)) B
        have hll := lvL_len (B.ms.take k) 0
        rw [List.length_take] at hll
        obtain ⟨C, hCC⟩ : ∃ C, C = pbF A P (lvL 0 (B.ms.take k)) B := ⟨_, rfl⟩
        rw [← hCC] at HF HZ ed hgl
        have HCC := hid hCC
        have ED := hid ed
        clear hdd hCC ed
        obtain ⟨T', hB, hS, hNw⟩ := HZ.out
        have HS : Hid (Sp T v3 wr ∧ Nw v3 T T') := ⟨hS, hNw⟩
        have hW1 := bw_write hB HKr.out k A P (by omega)
        have x0 : wr.cell? ⟨x, 0, none⟩ = some (.pointer (some ⟨b, 0, none⟩)) := hS.held X3.out.c0 X3.out.nt
        have HB := hid hB
        obtain ⟨E1, hE1⟩ : ∃ E, E = opE C.1 k (fun S => wrE S A P) := ⟨_, rfl⟩
        rw [← hE1] at hW1
        have HE1 := hid hE1
        have hxT : Hid (x ∉ T') := nw_nt hNw X3.out.hx X3.out.nt
        clear hB hS hNw hE1
        go_wp2_with fail
        refine hC.mono ?_; rintro e y1 ⟨rfl, hy⟩
        subst y1
        clear hC
        go_wp2_with fail
        refine hW1.mono ?_; rintro e y2 ⟨rfl, z2⟩
        have HK2 : Hid (Kp w0 y2) := z2.below OL.bw HB.out HKr.out
        obtain ⟨T2, o2, s2, nn2⟩ := z2
        have HZ2 : Hid (Sp T v3 y2 ∧ Nw v3 T T2) := ⟨HS.out.1.then s2 HS.out.2, HS.out.2.trans nn2 HS.out.1.size⟩
        have x2 : y2.cell? ⟨x, 0, none⟩ = some (.pointer (some ⟨b, 0, none⟩)) := s2.held x0 hxT.out
        have HO2 := hid o2
        by_cases h21 : E1 = 21
        · have e1 : Go.Proofs.YtinpkfdmellleaaGreat.p1 A P C k = (opS C.1 k (fun S => Go.Proofs.YtinpkfdmellleaaGreat.wr S A P), true) := p1_w HF.out (HE1.out.symm.trans h21)
          have HFin : Hid (puE' ⟨B, L⟩ ⟨N, s, ep, sts, mks⟩ = 21 ∧ puK ⟨B, L⟩ ⟨N, s, ep, sts, mks⟩ = ⟨opS C.1 k (fun S => Go.Proofs.YtinpkfdmellleaaGreat.wr S A P), L⟩) := by
            have e2 : pbF A P (lvL 0 B.ms) B = (opS C.1 k (fun S => Go.Proofs.YtinpkfdmellleaaGreat.wr S A P), true) := by
              rw [pb_end (k := k + 1) (by rw [ED.out, e1]), ED.out, e1]
            unfold puE' puK
            rw [HR.out, e2]
            exact ⟨rfl, rfl⟩
          subst h21
          clear e1 s2 nn2 o2 hW1 x0
          go_wp2
          go_ret
          refine ⟨by rw [HFin.out.1]; rfl, ⟨T2, sv, mv, ?_, ?_, ?_, (Lb.self w sv mv).mono (Nat.le_refl _) (fun q h => .inl (List.mem_append_left _ h))⟩, fun h => by rw [HFin.out.1] at h; cases h⟩
          · rw [HFin.out.2]
            exact X3.out.bayX HO2.out HZ2.out.1 HZ2.out.2
          · exact (((K2.out.sp (x :: T)).trans (HS3.out.mono (fun t ht => List.mem_cons_of_mem _ ht))).trans (HZ2.out.1.mono (fun t ht => List.mem_cons_of_mem _ ht)))
          · exact fun t ht => (HZ2.out.2 t ht).imp id (fun h => by have := hs3.out; omega)
        · have hfl := bw_flush o2 HK2.out k (by rw [(opS_len _ _ _).2]; omega)
          have e1 := p1_f (a := A) (s := P) (i := k) HF.out (fun h => h21 (HE1.out.trans h))
          obtain ⟨E2, hE2⟩ : ∃ E, E = opE (opS C.1 k (fun S => Go.Proofs.YtinpkfdmellleaaGreat.wr S A P)) k flE := ⟨_, rfl⟩
          rw [← hE2] at hfl e1
          have H1 := hid e1
          clear e1 s2 nn2 o2 hW1 x0 hE2
          go_wp2_with fail
          refine hfl.mono ?_; rintro e y3 ⟨rfl, z3⟩
          obtain ⟨T3, o3, s3, nn3⟩ := z3
          have HZ3 : Hid (Sp T v3 y3 ∧ Nw v3 T T3) := ⟨HZ2.out.1.then s3 HZ2.out.2, HZ2.out.2.trans nn3 HZ2.out.1.size⟩
          have HO3 := hid o3
          clear s3 nn3 o3 hfl x2
          by_cases h22 : E2 = 21
          · have HFin : Hid (puE' ⟨B, L⟩ ⟨N, s, ep, sts, mks⟩ = 21 ∧ puK ⟨B, L⟩ ⟨N, s, ep, sts, mks⟩ = ⟨opS (opS C.1 k (fun S => Go.Proofs.YtinpkfdmellleaaGreat.wr S A P)) k fl, L⟩) := by
              have e2 : pbF A P (lvL 0 B.ms) B = (opS (opS C.1 k (fun S => Go.Proofs.YtinpkfdmellleaaGreat.wr S A P)) k fl, true) := by
                rw [pb_end (k := k + 1) (by rw [ED.out, H1.out, h22]; rfl), ED.out, H1.out, h22]; rfl
              unfold puE' puK
              rw [HR.out, e2]
              exact ⟨rfl, rfl⟩
            subst h22
            go_wp2
            go_ret
            refine ⟨by rw [HFin.out.1]; rfl, ⟨T3, sv, mv, ?_, ?_, ?_, (Lb.self w sv mv).mono (Nat.le_refl _) (fun q h => .inl (List.mem_append_left _ h))⟩, fun h => by rw [HFin.out.1] at h; cases h⟩
            · rw [HFin.out.2]
              exact X3.out.bayX HO3.out HZ3.out.1 HZ3.out.2
            · exact (((K2.out.sp (x :: T)).trans (HS3.out.mono (fun t ht => List.mem_cons_of_mem _ ht))).trans (HZ3.out.1.mono (fun t ht => List.mem_cons_of_mem _ ht)))
            · exact fun t ht => (HZ3.out.2 t ht).imp id (fun h => by have := hs3.out; omega)
          · have e3 : Go.Proofs.YtinpkfdmellleaaGreat.p1 A P C k = (opS (opS C.1 k (fun S => Go.Proofs.YtinpkfdmellleaaGreat.wr S A P)) k fl, false) := by rw [H1.out, decide_eq_false h22]
            have HF1 : Hid ((pbF A P (lvL 0 (B.ms.take (k + 1))) B).2 = false) := by
              show _ = _
              rw [ED.out, e3]
            have HZ1 : Hid (Nz Bw w0 v3 y3 b T (pbF A P (lvL 0 (B.ms.take (k + 1))) B).1) := by
              show Nz _ _ _ _ _ _ _
              rw [ED.out, e3]
              exact ⟨T3, HO3.out, HZ3.out⟩
            clear e3 HZ3 HO3
            have b1 : (E1 == 21) = false := by simpa using h21
            have b2 : (E2 == 21) = false := by simpa using h22
            go_wp2
            go_roundw
            case rel => exact ⟨k + 1, by omega, by go_num, HF1, HZ1⟩
            case measure => simp [intOf]; omega
    · have ek : k = N := by omega
      rw [ek, List.take_of_length_le (by rw [← HN.out]; omega)] at HF HZ
      obtain ⟨T', hB, hS, hNw⟩ := HZ.out
      have HFin : Hid (puE' ⟨B, L⟩ ⟨N, s, ep, sts, mks⟩ = 0 ∧ puK ⟨B, L⟩ ⟨N, s, ep, sts, mks⟩ = ⟨(pbF A P (lvL 0 B.ms) B).1, ⟨N, s, L.ep + 1, sts, mks⟩⟩) := by
        unfold puE' puK
        rw [HR.out, HF.out]
        exact ⟨rfl, rfl⟩
      have XF := X3.out.bayX hB hS hNw
      have rr : ∀ q, q ∉ x :: T ∧ q < w.heap.size → q ∉ x :: T' ∧ q < wr.heap.size := fun q h => ⟨nw_nc hNw (by have := hs3.out; omega) h.1, by have := hs3.out; have := hS.size; omega⟩
      have XS := hid (XF.store (L := ⟨N, s, L.ep + 1, sts, mks⟩) (u1 := .slice a1 n1 cp1) (u2 := .slice a2 n2 cp2) (M1.out.sp hS (fun q hq hm => (HR1.out q hq).1 (List.mem_cons_of_mem _ hm))) (M2.out.sp hS (fun q hq hm => (HR2.out q hq).1 (List.mem_cons_of_mem _ hm))) (fun q hq => rr q (HR1.out q hq)) (fun q hq => rr q (HR2.out q hq)))
      have HS : Hid (Sp T v3 wr ∧ Nw v3 T T') := ⟨hS, hNw⟩
      obtain ⟨d0, d1, d2, d3, d4⟩ : Lc wr w.heap.size N s (L.ep + 1) (.slice a1 n1 cp1) (.slice a2 n2 cp2) := ⟨hS.held L3.out.c0 hwT.out, hS.held L3.out.c1 hwT.out, hS.held L3.out.c2 hwT.out, hS.held L3.out.c3 hwT.out, hS.held L3.out.c4 hwT.out⟩
      have fz := XF.fz
      obtain ⟨x1, x2, x3, x4, x5⟩ : wr.cell? ⟨x, 1, none⟩ = some (.int .i64 L.n) ∧ wr.cell? ⟨x, 2, none⟩ = some (.int .i64 L.s) ∧ wr.cell? ⟨x, 3, none⟩ = some (.int .i64 L.ep) ∧ wr.cell? ⟨x, 4, none⟩ = some sv ∧ wr.cell? ⟨x, 5, none⟩ = some mv := ⟨XF.c1, XF.c2, XF.c3, XF.c4, XF.c5⟩
      clear hB hS hNw XF rr HZ
      go_wp2
      go_ret
      have f1 : KX w0 (ov1 wr x N s (L.ep + 1) (.slice a1 n1 cp1) (.slice a2 n2 cp2)) x b T' (puK ⟨B, L⟩ ⟨N, s, ep, sts, mks⟩) (.slice a1 n1 cp1) (.slice a2 n2 cp2) := by
        rw [HFin.out.2]
        exact XS.out
      have f2 : Sp (x :: T) w (ov1 wr x N s (L.ep + 1) (.slice a1 n1 cp1) (.slice a2 n2 cp2)) := (((K2.out.sp (x :: T)).trans (HS3.out.mono (fun t ht => List.mem_cons_of_mem _ ht))).trans (HS.out.1.mono (fun t ht => List.mem_cons_of_mem _ ht))).trans ((ov1_sp wr x _ _ _ _ _).mono (fun t ht => by rw [List.mem_singleton.1 ht]; exact List.mem_cons_self))
      have f3 : Nw w T T' := fun t ht => (HS.out.2 t ht).imp id (fun h => by have := hs3.out; omega)
      exact ⟨by rw [HFin.out.1]; rfl, ⟨T', _, _, f1, f2, f3, (Lb.self w _ _).mono (Nat.le_refl _) (fun q h => .inl (List.mem_append_right _ h))⟩, fun _ => ⟨T', f1, f2, f3⟩⟩

theorem publish_any {w0 w : World} {x b : Nat} {T : List Nat} {K : KS} {sv mv : Value} (h : KX w0 w x b T K sv mv) (hK : Kp w0 w) (M : LB) (u1 u2 : Value) (hn : (K.b.ms.length : Int) = M.n) (m1 : Nl w u1 M.sts) (m2 : Nl w u2 M.mks) (r1 : ∀ q, u1.ownBlock = some q → q ∉ x :: T ∧ q < w.heap.size) (r2 : ∀ q, u2.ownBlock = some q → q ∉ x :: T ∧ q < w.heap.size) (he0 : 0 ≤ K.l.ep) (he : K.l.ep < 9007199254740992) (hg : K.b.g + 100 < 1000000) :
    Calls Tryz.prog 67 #[.pointer (some ⟨x, 0, none⟩), lV M.n M.s M.ep u1 u2] w fun e w' => e = .returned (.int .i64 (puE' K M)) ∧ Kz w0 w w' x b T (puK K M) ∧ (puE' K M = 0 → ∃ T', KX w0 w' x b T' (puK K M) u1 u2 ∧ Sp (x :: T) w w' ∧ Nw w T T') :=
  (publish_l h hK M u1 u2 hn m1 m2 r1 r2 he0 he hg).mono fun e w' ⟨h1, h2, h3⟩ => ⟨h1, h2.kz, h3⟩

end Go.Proofs.YtinpkfdmellleaaGreat

namespace Go.Proofs.YtinpkfdmellleaaGreat
open Go.RowKit Plain
set_option linter.unusedVariables false

/-- two lists of the call's own, apart. -/
def Tw (w : World) (base : Nat) (u1 u2 : Value) (l m : List Int) : Prop := Oi 89 w base u1 l ∧ Oi 3 w base u2 m ∧ Apt u1 u2
theorem Tw.kp {w w' : World} {base : Nat} {u1 u2 : Value} {l m : List Int} (h : Tw w base u1 u2 l m) (k : Kp w w') : Tw w' base u1 u2 l m := ⟨h.1.kept k, h.2.1.kept k, h.2.2⟩
theorem Tw.sp {w w' : World} {base : Nat} {u1 u2 : Value} {l m : List Int} {T : List Nat} (h : Tw w base u1 u2 l m) (k : Sp T w w') (hT : ∀ t, t ∈ T → t < base) : Tw w' base u1 u2 l m :=
  ⟨k.own h.1 (fun g hg ht => by have := (World.ownsRow.lt h.1 g hg).1; have := hT g ht; omega), k.own h.2.1 (fun g hg ht => by have := (World.ownsRow.lt h.2.1 g hg).1; have := hT g ht; omega), h.2.2⟩
theorem Tw.mono {w : World} {base base' : Nat} {u1 u2 : Value} {l m : List Int} (h : Tw w base u1 u2 l m) (hb : base' ≤ base) : Tw w base' u1 u2 l m := ⟨h.1.mono hb, h.2.1.mono hb, h.2.2⟩
theorem Tw.n1 {w : World} {base : Nat} {u1 u2 : Value} {l m : List Int} (h : Tw w base u1 u2 l m) : Nl w u1 l := h.1.nums
theorem Tw.n2 {w : World} {base : Nat} {u1 u2 : Value} {l m : List Int} (h : Tw w base u1 u2 l m) : Nl w u2 m := h.2.1.nums
theorem Tw.lo1 {w : World} {base : Nat} {u1 u2 : Value} {l m : List Int} (h : Tw w base u1 u2 l m) : ∀ q, u1.ownBlock = some q → base ≤ q ∧ q < w.heap.size := h.1.low
theorem Tw.lo2 {w : World} {base : Nat} {u1 u2 : Value} {l m : List Int} (h : Tw w base u1 u2 l m) : ∀ q, u2.ownBlock = some q → base ≤ q ∧ q < w.heap.size := h.2.1.low
theorem Oi.put {e : TypeId} {w : World} {base g n cap : Nat} {l : List Int} (h : Oi e w base (.slice (some ⟨g, 0, none⟩) n cap) l) (j : Nat) (a : Int) : Oi e (w.setCell ⟨g, j, none⟩ (.int .i64 a)) base (.slice (some ⟨g, 0, none⟩) n cap) (l.set j a) := by
  have hn : n = l.length := by
    rcases h.2 with ⟨h', _⟩ | ⟨g', cap', cur, h', _⟩
    · simp at h'
    · simp only [Value.slice.injEq] at h'; exact h'.2.1
  subst hn
  have := (World.ownsRow.stored h j (.int .i64 a)).1
  unfold Oi
  rw [List.length_set, List.map_set]
  exact this
theorem Oi.other {e : TypeId} {w : World} {base g : Nat} {v : Value} {l : List Int} (h : Oi e w base v l) (hg : v.ownBlock ≠ some g) (j : Nat) (a : Value) : Oi e (w.setCell ⟨g, j, none⟩ a) base v l :=
  ((Sp.refl [g] w).set g j (by simp) a).own h (fun k hk hm => hg (by rw [← List.mem_singleton.1 hm]; exact hk))
theorem Tw.put {w : World} {base g1 g2 n1 n2 c1 c2 : Nat} {l m : List Int} (h : Tw w base (.slice (some ⟨g1, 0, none⟩) n1 c1) (.slice (some ⟨g2, 0, none⟩) n2 c2) l m) (j : Nat) (a b : Int) : Tw ((w.setCell ⟨g1, j, none⟩ (.int .i64 a)).setCell ⟨g2, j, none⟩ (.int .i64 b)) base (.slice (some ⟨g1, 0, none⟩) n1 c1) (.slice (some ⟨g2, 0, none⟩) n2 c2) (l.set j a) (m.set j b) :=
  ⟨(h.1.put j a).other (fun e => h.2.2 g1 rfl (by have : g1 = g2 := by injection e
                                                  rw [this]; rfl)) j _, (h.2.1.other (fun e => h.2.2 g1 rfl (by injection e with e; rw [← e]; rfl)) j _).put j b, h.2.2⟩
theorem Tw.shape {w : World} {base : Nat} {u1 u2 : Value} {l m : List Int} (h : Tw w base u1 u2 l m) (h1 : 0 < l.length) (h2 : 0 < m.length) : ∃ g1 c1 g2 c2, u1 = .slice (some ⟨g1, 0, none⟩) l.length c1 ∧ u2 = .slice (some ⟨g2, 0, none⟩) m.length c2 ∧ l.length ≤ c1 ∧ c1 ≤ 9223372036854775807 ∧ m.length ≤ c2 ∧ c2 ≤ 9223372036854775807 ∧ g1 ≠ g2 ∧ (∀ o, w.frozen? ⟨g1, o, none⟩ = false) ∧ (∀ o, w.frozen? ⟨g2, o, none⟩ = false) ∧ (∀ j, j < l.length → w.cell? ⟨g1, j, none⟩ = some (.int .i64 (l.getD j 0))) ∧ (∀ j, j < m.length → w.cell? ⟨g2, j, none⟩ = some (.int .i64 (m.getD j 0))) := by
  obtain ⟨o1, o2, ap⟩ := h
  have f1 := o1.fe
  have f2 := o2.fe
  obtain ⟨a1, c1, rfl, q1, q2, q3⟩ := f1.shape
  obtain ⟨g1, rfl, _, _⟩ := q3 h1
  obtain ⟨a2, c2, rfl, r1, r2, r3⟩ := f2.shape
  obtain ⟨g2, rfl, _, _⟩ := r3 h2
  exact ⟨g1, c1, g2, c2, rfl, rfl, q1, q2, r1, r2, fun e => ap g1 rfl (by rw [e]; rfl), fun o => f1.z o, fun o => f2.z o, fun j hj => f1.at j hj, fun j hj => f2.at j hj⟩

set_option maxRecDepth 100000 in
set_option maxHeartbeats 2000000 in
theorem label_any {w0 w : World} {x b : Nat} {T : List Nat} {K : KS} {sv mv : Value} (h : KX w0 w x b T K sv mv) (hl : K.l.sts.length ≤ 1000) (hm : K.l.mks.length ≤ 1000) : Calls Tryz.prog 24 #[.pointer (some ⟨x, 0, none⟩)] w fun e w' => ∃ u1 u2, e = .returned (lV K.l.n K.l.s K.l.ep u1 u2) ∧ Tw w' w.heap.size u1 u2 K.l.sts K.l.mks ∧ Kp w w' := by
  obtain ⟨B, ⟨n, s, ep, sts, mks⟩⟩ := K
  dsimp only at hl hm ⊢
  have hC := fun w' (k : Kp w w') => copy_any n s ep sts mks sv mv w' (h.n1.kept k) (h.n2.kept k) hl hm
  have kA : Kp w (w.alloc (.cells #[.int .i64 0, .int .i64 0, .int .i64 0, .slice none 0 0, .slice none 0 0] 63)) := (Kp.refl w).alloc _
  have LA : Hid (Lc (w.alloc (.cells #[.int .i64 0, .int .i64 0, .int .i64 0, .slice none 0 0, .slice none 0 0] 63)) w.heap.size 0 0 0 (.slice none 0 0) (.slice none 0 0)) := Lc.new w _ _ _ _ _ _
  obtain ⟨W, hW⟩ : ∃ W, W = w.alloc (.cells #[.int .i64 0, .int .i64 0, .int .i64 0, .slice none 0 0, .slice none 0 0] 63) := ⟨_, rfl⟩
  have HW := hid hW
  have z0 : ∀ o, W.frozen? ⟨w.heap.size, o, none⟩ = false := fun o => by rw [hW]; simp
  have hWs : W.heap.size = w.heap.size + 1 := by rw [hW]; simp
  rw [← hW] at kA LA
  have hC1 := hC W kA
  have X := h.kp kA
  obtain ⟨x1, x2, x3, x4, x5⟩ : W.cell? ⟨x, 1, none⟩ = some (.int .i64 n) ∧ W.cell? ⟨x, 2, none⟩ = some (.int .i64 s) ∧ W.cell? ⟨x, 3, none⟩ = some (.int .i64 ep) ∧ W.cell? ⟨x, 4, none⟩ = some sv ∧ W.cell? ⟨x, 5, none⟩ = some mv := ⟨X.c1, X.c2, X.c3, X.c4, X.c5⟩
  have KA := hid kA
  clear hC hW X h kA
  unfold lV at hC1
  go_enter Tryz.func24, Tryz.ntmps24
  go_upto_region 1 with fail
  rw [← HW.out]
  clear HW
  go_wp2_with fail
  refine hC1.mono ?_; rintro e v1 ⟨u1, u2, rfl, o1, o2, ap, k1⟩
  obtain ⟨b1, m1, q1, rfl⟩ := o1.shape
  obtain ⟨b2, m2, q2, rfl⟩ := o2.shape
  rw [hWs] at o1 o2
  have l1 := LA.out.kept k1
  have z1 : ∀ o, v1.frozen? ⟨w.heap.size, o, none⟩ = false := fun o => ((k1.sp []).frozen (by omega) (by simp) o).trans (z0 o)
  have TW : Hid (Tw v1 (w.heap.size + 1) (.slice b1 m1 q1) (.slice b2 m2 q2) sts mks) := ⟨o1, o2, ap⟩
  have K1 : Hid (Kp w v1) := KA.out.trans k1
  obtain ⟨c0, c1, c2, c3, c4⟩ := l1
  clear hC1 k1 o1 o2 ap x1 x2 x3 x4 x5 z0
  go_wp2
  refine bodyPost_ret (results_lb rfl _ _ w.heap.size rfl (Lc.over ⟨c0, c1, c2, c3, c4⟩)) rfl ?_
  have tr : Trd w.heap.size v1 (over v1 w.heap.size n s ep (.slice b1 m1 q1) (.slice b2 m2 q2)) := (Trd.refl _ v1).over _ _ _ _ _
  refine ⟨_, _, rfl, ?_, tr.kp w K1.out (Nat.le_refl _)⟩
  have sp : Sp [w.heap.size] v1 (over v1 w.heap.size n s ep (.slice b1 m1 q1) (.slice b2 m2 q2)) := (((((Sp.refl [w.heap.size] v1).set _ 0 (by simp) _).set _ 1 (by simp) _).set _ 2 (by simp) _).set _ 3 (by simp) _).set _ 4 (by simp) _
  exact (TW.out.sp sp (fun t ht => by have := List.mem_singleton.1 ht; omega)).mono (by omega)
set_option maxRecDepth 100000 in
set_option maxHeartbeats 2000000 in
theorem bfind_any {w0 w : World} {x b : Nat} {T : List Nat} {K : KS} {sv mv : Value} (h : KX w0 w x b T K sv mv) (m : Int) : Calls Tryz.prog 80 #[.pointer (some ⟨x, 0, none⟩), .int .i64 m] w fun e w' => e = .returned (.int .i64 (if inK K m then 0 else 3)) ∧ w' = w := by
  have c1 := h.c1
  have e1 : inK K m ↔ ¬ m < 0 ∧ ¬ K.l.n ≤ m := by unfold inK; omega
  obtain ⟨n, hn⟩ : ∃ n, n = K.l.n := ⟨_, rfl⟩
  rw [← hn] at c1 e1
  clear h hn
  by_cases h1 : m < 0
  · rw [if_neg (fun hh => (e1.1 hh).1 h1)]
    clear e1
    go_enter Tryz.func80, Tryz.ntmps80
    go_wp2
    go_ret
    exact ⟨rfl, rfl⟩
  · by_cases h2 : n ≤ m
    · rw [if_neg (fun hh => (e1.1 hh).2 h2)]
      clear e1
      go_enter Tryz.func80, Tryz.ntmps80
      go_wp2
      go_ret
      exact ⟨rfl, rfl⟩
    · rw [if_pos (e1.2 ⟨h1, h2⟩)]
      clear e1
      go_enter Tryz.func80, Tryz.ntmps80
      go_wp2
      go_ret
      exact ⟨rfl, rfl⟩
theorem Sp.drew {T : List Nat} {a b : World} (h : Sp T a b) : Sp T a b.drew := h.trans ((Kp.refl b).drew.sp T)
set_option maxRecDepth 100000 in
set_option maxHeartbeats 4000000 in
theorem with_any {w0 w : World} {x b : Nat} {T : List Nat} {K : KS} {sv mv : Value} (h : KX w0 w x b T K sv mv) (m : Nat) (st mk : Int) (hl : K.l.sts.length ≤ 1000) (hm : K.l.mks.length ≤ 1000) (h1 : m < K.l.sts.length) (h2 : m < K.l.mks.length) : Calls Tryz.prog 81 #[.pointer (some ⟨x, 0, none⟩), .int .i64 (m : Int), .int .i64 st, .int .i64 mk] w fun e w' => ∃ u1 u2, e = .returned (lV K.l.n K.l.s K.l.ep u1 u2) ∧ Tw w' w.heap.size u1 u2 (K.l.sts.set m st) (K.l.mks.set m mk) ∧ Kp w w' := by
  obtain ⟨B, ⟨n, s, ep, sts, mks⟩⟩ := K
  dsimp only at hl hm h1 h2 ⊢
  have hC := fun w' (k : Kp w w') => copy_any n s ep sts mks sv mv w' (h.n1.kept k) (h.n2.kept k) hl hm
  have kA : Kp w (w.alloc (.cells #[.int .i64 0, .int .i64 0, .int .i64 0, .slice none 0 0, .slice none 0 0] 63)) := (Kp.refl w).alloc _
  have LA : Hid (Lc (w.alloc (.cells #[.int .i64 0, .int .i64 0, .int .i64 0, .slice none 0 0, .slice none 0 0] 63)) w.heap.size 0 0 0 (.slice none 0 0) (.slice none 0 0)) := Lc.new w _ _ _ _ _ _
  obtain ⟨W, hW⟩ : ∃ W, W = w.alloc (.cells #[.int .i64 0, .int .i64 0, .int .i64 0, .slice none 0 0, .slice none 0 0] 63) := ⟨_, rfl⟩
  have HW := hid hW
  have z0 : ∀ o, W.frozen? ⟨w.heap.size, o, none⟩ = false := fun o => by rw [hW]; simp
  have hWs : W.heap.size = w.heap.size + 1 := by rw [hW]; simp
  rw [← hW] at kA LA
  have hC1 := hC W kA
  have X := h.kp kA
  obtain ⟨x1, x2, x3, x4, x5⟩ : W.cell? ⟨x, 1, none⟩ = some (.int .i64 n) ∧ W.cell? ⟨x, 2, none⟩ = some (.int .i64 s) ∧ W.cell? ⟨x, 3, none⟩ = some (.int .i64 ep) ∧ W.cell? ⟨x, 4, none⟩ = some sv ∧ W.cell? ⟨x, 5, none⟩ = some mv := ⟨X.c1, X.c2, X.c3, X.c4, X.c5⟩
  have KA := hid kA
  clear hC hW X h kA
  unfold lV at hC1
  go_enter Tryz.func81, Tryz.ntmps81
  go_upto_region 1 with fail
  rw [← HW.out]
  clear HW
  go_wp2_with fail
  refine hC1.mono ?_; rintro e v1 ⟨u1, u2, rfl, o1, o2, ap, k1⟩
  rw [hWs] at o1 o2
  have TW0 : Hid (Tw v1 (w.heap.size + 1) u1 u2 sts mks) := ⟨o1, o2, ap⟩
  have l1 : Hid (Lc v1 w.heap.size 0 0 0 (.slice none 0 0) (.slice none 0 0)) := LA.out.kept k1
  have z1 : Hid (∀ o, v1.frozen? ⟨w.heap.size, o, none⟩ = false) := fun o => ((k1.sp []).frozen (by omega) (by simp) o).trans (z0 o)
  have K1 : Hid (Kp w v1) := KA.out.trans k1
  have hs1 : w.heap.size < v1.heap.size := World.block_lt_of_cell? _ _ l1.out.c0
  obtain ⟨g1, c1, g2, c2, rfl, rfl, q1, q2, r1, r2, gne, f1, f2, cc1, cc2⟩ := TW0.out.shape (by omega) (by omega)
  have lg1 := (TW0.out.lo1 g1 rfl)
  have lg2 := (TW0.out.lo2 g2 rfl)
  have HG : Hid (w.heap.size ≠ g1 ∧ w.heap.size ≠ g2 ∧ g1 < v1.heap.size ∧ g2 < v1.heap.size) := ⟨by omega, by omega, lg1.2, lg2.2⟩
  have LN : Hid (Lc (v1.alloc (.cells #[.int .i64 n, .int .i64 s, .int .i64 ep, .slice (some ⟨g1, 0, none⟩) sts.length c1, .slice (some ⟨g2, 0, none⟩) mks.length c2] 63)) v1.heap.size n s ep (.slice (some ⟨g1, 0, none⟩) sts.length c1) (.slice (some ⟨g2, 0, none⟩) mks.length c2)) := Lc.new v1 _ _ _ _ _ _
  have KN : Hid (Kp v1 (v1.alloc (.cells #[.int .i64 n, .int .i64 s, .int .i64 ep, .slice (some ⟨g1, 0, none⟩) sts.length c1, .slice (some ⟨g2, 0, none⟩) mks.length c2] 63))) := (Kp.refl v1).alloc _
  obtain ⟨V, hV⟩ : ∃ V, V = v1.alloc (.cells #[.int .i64 n, .int .i64 s, .int .i64 ep, .slice (some ⟨g1, 0, none⟩) sts.length c1, .slice (some ⟨g2, 0, none⟩) mks.length c2] 63) := ⟨_, rfl⟩
  have HV := hid hV
  rw [← hV] at LN KN
  clear hC1 k1 o1 o2 ap x1 x2 x3 x4 x5 z0 hV cc1 cc2
  go_upto_region 2 with fail
  rw [← HV.out]
  clear HV
  have lV1 : v1.heap.size < V.heap.size := World.block_lt_of_cell? _ _ LN.out.c0
  have TW : Hid (Tw V (w.heap.size + 1) (.slice (some ⟨g1, 0, none⟩) sts.length c1) (.slice (some ⟨g2, 0, none⟩) mks.length c2) sts mks) := TW0.out.kp KN.out
  obtain ⟨_, _, _, _, e1, e2, _, _, _, _, _, f1', f2', cc1, cc2⟩ := TW.out.shape (by omega) (by omega)
  have y1 := cc1 m h1
  have y2 := cc2 m h2
  simp only [Value.slice.injEq, Option.some.injEq, Addr.mk.injEq, and_true, true_and] at e1 e2
  rw [← e1.1] at y1
  rw [← e2.1] at y2
  have fz1 : ∀ o, V.frozen? ⟨g1, o, none⟩ = false := fun o => ((KN.out.sp []).frozen HG.out.2.2.1 (by simp) o).trans (f1 o)
  have fz2 : ∀ o, V.frozen? ⟨g2, o, none⟩ = false := fun o => ((KN.out.sp []).frozen HG.out.2.2.2 (by simp) o).trans (f2 o)
  obtain ⟨s1, hs1'⟩ : ∃ s, s = sts.getD m 0 := ⟨_, rfl⟩
  obtain ⟨s2, hs2'⟩ : ∃ s, s = mks.getD m 0 := ⟨_, rfl⟩
  obtain ⟨nS, hnS⟩ : ∃ s, s = sts.length := ⟨_, rfl⟩
  obtain ⟨nM, hnM⟩ : ∃ s, s = mks.length := ⟨_, rfl⟩
  rw [← hs1'] at y1
  rw [← hs2'] at y2
  have gB1 : v1.heap.size ≠ g1 := by have := HG.out.2.2.1; omega
  have gB2 : v1.heap.size ≠ g2 := by have := HG.out.2.2.2; omega
  have gne' : g2 ≠ g1 := fun h => gne h.symm
  obtain ⟨d0, d1, d2, d3, d4⟩ := LN.out
  clear f1' f2' cc1 cc2 e1 e2 f1 f2 hs1' hs2'
  have hcS : ((m : Int) < (sts.length : Int)) := by omega
  have hcM : ((m : Int) < (mks.length : Int)) := by omega
  have hc0 : (0 : Int) ≤ (m : Int) := by omega
  have HC : ∀ U, Sp [g1, g2] V U → U.cell? ⟨v1.heap.size, 3, none⟩ = some (.slice (some ⟨g1, 0, none⟩) sts.length c1) ∧ U.cell? ⟨v1.heap.size, 4, none⟩ = some (.slice (some ⟨g2, 0, none⟩) mks.length c2) := fun U k => ⟨k.held d3 (by simp [gB1, gB2]), k.held d4 (by simp [gB1, gB2])⟩
  go_region_held3 (fun U => U.cell? ⟨v1.heap.size, 3, none⟩ = some (.slice (some ⟨g1, 0, none⟩) sts.length c1) ∧ U.cell? ⟨v1.heap.size, 4, none⟩ = some (.slice (some ⟨g2, 0, none⟩) mks.length c2)) (first | exact HC _ (Sp.refl _ _) | exact HC _ (Sp.refl _ _).drew | exact HC _ ((Sp.refl _ _).set g1 m (by simp) _) | exact HC _ ((Sp.refl _ _).set g1 m (by simp) _).drew | exact HC _ ((Sp.refl _ _).set g2 m (by simp) _) | exact HC _ ((Sp.refl _ _).set g2 m (by simp) _).drew | exact HC _ (((Sp.refl _ _).set g1 m (by simp) _).set g2 m (by simp) _) | exact HC _ (((Sp.refl _ _).set g1 m (by simp) _).set g2 m (by simp) _).drew | exact HC _ (((Sp.refl _ _).set g2 m (by simp) _).set g1 m (by simp) _) | exact HC _ (((Sp.refl _ _).set g2 m (by simp) _).set g1 m (by simp) _).drew) (fail)
  have TZ : Hid (Tw ((V.setCell ⟨g1, m, none⟩ (.int .i64 st)).setCell ⟨g2, m, none⟩ (.int .i64 mk)).drew (w.heap.size + 1) (.slice (some ⟨g1, 0, none⟩) sts.length c1) (.slice (some ⟨g2, 0, none⟩) mks.length c2) (sts.set m st) (mks.set m mk)) := (TW.out.put m st mk).kp (Kp.refl _).drew
  have SZ : Sp [g1, g2] V ((V.setCell ⟨g1, m, none⟩ (.int .i64 st)).setCell ⟨g2, m, none⟩ (.int .i64 mk)).drew := (((Sp.refl _ _).set g1 m (by simp) _).set g2 m (by simp) _).drew
  obtain ⟨Z, hZ⟩ : ∃ Z, Z = ((V.setCell ⟨g1, m, none⟩ (.int .i64 st)).setCell ⟨g2, m, none⟩ (.int .i64 mk)).drew := ⟨_, rfl⟩
  have HZ := hid hZ
  rw [← hZ] at TZ SZ
  have gW : w.heap.size ∉ [g1, g2] := by have := HG.out.1; have := HG.out.2.1; simp; omega
  have gV : v1.heap.size ∉ [g1, g2] := by simp [gB1, gB2]
  obtain ⟨b0, b1, b2, b3, b4⟩ : Lc Z v1.heap.size n s ep (.slice (some ⟨g1, 0, none⟩) sts.length c1) (.slice (some ⟨g2, 0, none⟩) mks.length c2) := ⟨SZ.held d0 gV, SZ.held d1 gV, SZ.held d2 gV, SZ.held d3 gV, SZ.held d4 gV⟩
  have lW := l1.out.kept KN.out
  obtain ⟨t0, t1, t2, t3, t4⟩ : Lc Z w.heap.size 0 0 0 (.slice none 0 0) (.slice none 0 0) := ⟨SZ.held lW.c0 gW, SZ.held lW.c1 gW, SZ.held lW.c2 gW, SZ.held lW.c3 gW, SZ.held lW.c4 gW⟩
  have zZ : ∀ o, Z.frozen? ⟨w.heap.size, o, none⟩ = false := fun o => (SZ.frozen (by omega) gW o).trans (((KN.out.sp []).frozen hs1 (by simp) o).trans (z1.out o))
  have KZ : Hid (Kp w Z) := Sp.kp (K1.out.trans KN.out) SZ (fun t ht => by
    simp only [List.mem_cons, List.not_mem_nil, or_false] at ht
    rcases ht with rfl | rfl <;> omega)
  clear hZ SZ HC d0 d1 d2 d3 d4 y1 y2 fz1 fz2 gW gV lW hcS hcM
  rw [← HZ.out]
  clear HZ
  go_wp2
  refine bodyPost_ret (results_lb rfl _ _ w.heap.size rfl (Lc.over ⟨t0, t1, t2, t3, t4⟩)) rfl ?_
  have tr : Trd w.heap.size Z (over Z w.heap.size n s ep (.slice (some ⟨g1, 0, none⟩) sts.length c1) (.slice (some ⟨g2, 0, none⟩) mks.length c2)) := (Trd.refl _ Z).over _ _ _ _ _
  refine ⟨_, _, rfl, ?_, tr.kp w KZ.out (Nat.le_refl _)⟩
  have sp : Sp [w.heap.size] Z (over Z w.heap.size n s ep (.slice (some ⟨g1, 0, none⟩) sts.length c1) (.slice (some ⟨g2, 0, none⟩) mks.length c2)) := (((((Sp.refl [w.heap.size] Z).set _ 0 (by simp) _).set _ 1 (by simp) _).set _ 2 (by simp) _).set _ 3 (by simp) _).set _ 4 (by simp) _
  exact (TZ.out.sp sp (fun t ht => by have := List.mem_singleton.1 ht; omega)).mono (by omega)

end Go.Proofs.YtinpkfdmellleaaGreat

namespace Go.Proofs.YtinpkfdmellleaaGreat
open Go.RowKit Plain
set_option linter.unusedVariables false

theorem Sp.cutN {T U : List Nat} {w V Z : World} (k : Kp w V) (s : Sp U V Z) (h : ∀ u, u ∈ U → u ∈ T ∨ w.heap.size ≤ u) : Sp T w Z :=
  have q := k.sp T
  ⟨s.os.trans q.os, s.tape.trans q.tape, s.output.trans q.output, Nat.le_trans q.size s.size, fun i hi hT => (s.block i (Nat.lt_of_lt_of_le hi q.size) (fun hm => (h i hm).elim hT (fun h => by omega))).trans (q.block i hi hT)⟩
theorem wd_live {B : BS} {v : Int} {k : Nat} {l : List Int} (h : ddB B k = false) : wdV B v (k + 1) l = wdV B v k l := by simp only [wdV]; rw [if_neg (by rw [h]; simp)]
theorem wd_dead {B : BS} {v : Int} {k : Nat} {l : List Int} (h : ddB B k = true) : wdV B v (k + 1) l = (wdV B v k l).set k v := by simp only [wdV]; rw [if_pos h]

set_option maxRecDepth 100000 in
set_option maxHeartbeats 4000000 in
theorem withoutDead_any {w0 w : World} {x b : Nat} {T : List Nat} {K : KS} {sv mv : Value} (h : KX w0 w x b T K sv mv) (hK : Kp w0 w) (hn : (K.b.ms.length : Int) = K.l.n) (h1 : K.l.sts.length = K.b.ms.length) (h2 : K.l.mks.length = K.b.ms.length) : Calls Tryz.prog 68 #[.pointer (some ⟨x, 0, none⟩)] w fun e w' => ∃ u1 u2, e = .returned (lV K.l.n K.l.s K.l.ep u1 u2) ∧ Tw w' w.heap.size u1 u2 (wdL K.b K.l).sts (wdL K.b K.l).mks ∧ KX w0 w' x b T K sv mv ∧ Sp T w w' := by
  obtain ⟨m, X, F, hT, hbx⟩ := h.bay
  subst hT
  have hgd := hbx.gd
  obtain ⟨B, ⟨n, s, ep, sts, mks⟩⟩ := K
  dsimp only at hn h1 h2 hbx hgd ⊢
  obtain ⟨N, hN⟩ : ∃ N, N = B.ms.length := ⟨_, rfl⟩
  have hb1 := hgd.n1
  have hb2 := hgd.n2
  rw [← hN] at hn h1 h2 hb1 hb2
  have HN := hid hN
  have HR : Hid ((wdL B ⟨n, s, ep, sts, mks⟩).sts = wdV B 1 N sts ∧ (wdL B ⟨n, s, ep, sts, mks⟩).mks = wdV B 0 N mks) := by rw [hN]; exact ⟨rfl, rfl⟩
  subst hn
  have hC := fun w' (k : Kp w w') => copy_any (N : Int) s ep sts mks sv mv w' (h.n1.kept k) (h.n2.kept k) (by omega) (by omega)
  have kA : Kp w (w.alloc (.cells #[.int .i64 0, .int .i64 0, .int .i64 0, .slice none 0 0, .slice none 0 0] 63)) := (Kp.refl w).alloc _
  have LA : Hid (Lc (w.alloc (.cells #[.int .i64 0, .int .i64 0, .int .i64 0, .slice none 0 0, .slice none 0 0] 63)) w.heap.size 0 0 0 (.slice none 0 0) (.slice none 0 0)) := Lc.new w _ _ _ _ _ _
  obtain ⟨W, hW⟩ : ∃ W, W = w.alloc (.cells #[.int .i64 0, .int .i64 0, .int .i64 0, .slice none 0 0, .slice none 0 0] 63) := ⟨_, rfl⟩
  have HW := hid hW
  have z0 : ∀ o, W.frozen? ⟨w.heap.size, o, none⟩ = false := fun o => by rw [hW]; simp
  have hWs : W.heap.size = w.heap.size + 1 := by rw [hW]; simp
  rw [← hW] at kA LA
  have hC1 := hC W kA
  have X0 := h.kp kA
  obtain ⟨x1, x2, x3, x4, x5⟩ : W.cell? ⟨x, 1, none⟩ = some (.int .i64 N) ∧ W.cell? ⟨x, 2, none⟩ = some (.int .i64 s) ∧ W.cell? ⟨x, 3, none⟩ = some (.int .i64 ep) ∧ W.cell? ⟨x, 4, none⟩ = some sv ∧ W.cell? ⟨x, 5, none⟩ = some mv := ⟨X0.c1, X0.c2, X0.c3, X0.c4, X0.c5⟩
  have KA := hid kA
  have HH := hid h
  have HT : Hid (∀ t, t ∈ b :: m :: F → t < w.heap.size) := OL.bw.low h.bay
  have hxl := h.hx
  have HBX := hid hbx
  clear hC hW X0 h kA hN hgd hbx
  unfold lV at hC1
  go_enter Tryz.func68, Tryz.ntmps68
  go_upto_region 1 with fail
  rw [← HW.out]
  clear HW
  go_wp2_with fail
  refine hC1.mono ?_; rintro e v1 ⟨u1, u2, rfl, o1, o2, ap, k1⟩
  rw [hWs] at o1 o2
  have TW0 : Hid (Tw v1 (w.heap.size + 1) u1 u2 sts mks) := ⟨o1, o2, ap⟩
  have l1 : Hid (Lc v1 w.heap.size 0 0 0 (.slice none 0 0) (.slice none 0 0)) := LA.out.kept k1
  have z1 : Hid (∀ o, v1.frozen? ⟨w.heap.size, o, none⟩ = false) := fun o => ((k1.sp []).frozen (by omega) (by simp) o).trans (z0 o)
  have K1 : Hid (Kp w v1) := KA.out.trans k1
  have hs1 : w.heap.size < v1.heap.size := World.block_lt_of_cell? _ _ l1.out.c0
  obtain ⟨g1, c1, g2, c2, rfl, rfl, q1, q2, r1, r2, gne, _, _, _, _⟩ := TW0.out.shape (by omega) (by omega)
  have lg1 := (TW0.out.lo1 g1 rfl)
  have lg2 := (TW0.out.lo2 g2 rfl)
  rw [h1] at q1
  rw [h2] at r1
  have HLN : Hid (sts.length = N ∧ mks.length = N) := ⟨h1, h2⟩
  have LN : Hid (Lc (v1.alloc (.cells #[.int .i64 N, .int .i64 s, .int .i64 ep, .slice (some ⟨g1, 0, none⟩) N c1, .slice (some ⟨g2, 0, none⟩) N c2] 63)) v1.heap.size N s ep (.slice (some ⟨g1, 0, none⟩) N c1) (.slice (some ⟨g2, 0, none⟩) N c2)) := Lc.new v1 _ _ _ _ _ _
  have KN : Hid (Kp v1 (v1.alloc (.cells #[.int .i64 N, .int .i64 s, .int .i64 ep, .slice (some ⟨g1, 0, none⟩) N c1, .slice (some ⟨g2, 0, none⟩) N c2] 63))) := (Kp.refl v1).alloc _
  obtain ⟨V, hV⟩ : ∃ V, V = v1.alloc (.cells #[.int .i64 N, .int .i64 s, .int .i64 ep, .slice (some ⟨g1, 0, none⟩) N c1, .slice (some ⟨g2, 0, none⟩) N c2] 63) := ⟨_, rfl⟩
  have HV := hid hV
  rw [← hV] at LN KN
  rw [h1, h2] at TW0 ⊢
  clear hC1 k1 o1 o2 ap x1 x2 x3 x4 x5 z0 hV h1 h2
  go_upto_region 2 with fail
  rw [← HV.out]
  clear HV
  have lV1 : v1.heap.size < V.heap.size := World.block_lt_of_cell? _ _ LN.out.c0
  have TW : Hid (Tw V (w.heap.size + 1) (.slice (some ⟨g1, 0, none⟩) N c1) (.slice (some ⟨g2, 0, none⟩) N c2) sts mks) := TW0.out.kp KN.out
  have KV : Hid (Kp w V) := K1.out.trans KN.out
  have gW : Hid (w.heap.size ∉ g1 :: g2 :: b :: m :: F) := fun hm => by
    simp only [List.mem_cons] at hm
    rcases hm with hm | hm | hm
    · omega
    · omega
    · have := HT.out _ (by simp only [List.mem_cons]; exact hm); omega
  have gV : Hid (v1.heap.size ∉ g1 :: g2 :: b :: m :: F) := fun hm => by
    simp only [List.mem_cons] at hm
    rcases hm with hm | hm | hm
    · omega
    · omega
    · have := HT.out _ (by simp only [List.mem_cons]; exact hm); omega
  have gX : Hid (x ∉ g1 :: g2 :: b :: m :: F) := fun hm => by
    have h1 := HH.out.nt
    simp only [List.mem_cons] at hm h1
    rcases hm with hm | hm | hm
    · omega
    · omega
    · exact h1 hm
  have xc0 := KV.out.held HH.out.c0
  have HX0 := hid xc0
  have HBV : Hid (BX w0 V b m X F B) := HBX.out.kp KV.out
  obtain ⟨d0, d1, d2, d3, d4⟩ := LN.out
  clear HBX xc0 TW0
  go_wp2_with fail
  go_loopw [13] (fun j wr => ∃ k : Nat, k ≤ N ∧ j = .int .i64 k ∧ Hid (BX w0 wr b m X F B) ∧ Hid (Sp (g1 :: g2 :: b :: m :: F) V wr) ∧ Hid (Tw wr (w.heap.size + 1) (.slice (some ⟨g1, 0, none⟩) N c1) (.slice (some ⟨g2, 0, none⟩) N c2) (wdV B 1 k sts) (wdV B 0 k mks))) (fun j _ => N - (intOf j).toNat)
  case atStart => exact ⟨0, by omega, by go_num, HBV, Sp.refl _ _, TW⟩
  case round =>
    clear d0 d1 d2 d3 d4 TW HBV
    obtain ⟨k, hk, rfl, HB, HS, HTw⟩ := hrel
    by_cases hlt : k < N
    · have hkB : k < B.ms.length := by rw [← HN.out]; exact hlt
      have hfd : fdE B (k : Int) = 0 := fd_in (by omega) (by omega)
      have hM := bx_member HB.out hfd
      have hD := bx_dead HB.out hfd
      have xc : wr.cell? ⟨x, 0, none⟩ = some (.pointer (some ⟨b, 0, none⟩)) := HS.out.held HX0.out gX.out
      rw [show (bm B (k : Int)).dead = ddB B k by unfold bm ddB; rw [Int.toNat_natCast]] at hD
      obtain ⟨dd, hdd⟩ : ∃ d, d = ddB B k := ⟨_, rfl⟩
      rw [← hdd] at hD
      clear hfd
      go_wp2_with fail
      refine hM.mono ?_; rintro e y1 ⟨rfl, hy⟩
      subst y1
      clear hM
      go_wp2_with fail
      refine hD.mono ?_; rintro e y2 ⟨rfl, hB2, s2⟩
      have HB2 := hid hB2
      have HS2 : Hid (Sp (g1 :: g2 :: b :: m :: F) V y2) := HS.out.trans (s2.mono (fun t ht => by simp [ht]))
      have HTw2 : Hid (Tw y2 (w.heap.size + 1) (.slice (some ⟨g1, 0, none⟩) N c1) (.slice (some ⟨g2, 0, none⟩) N c2) (wdV B 1 k sts) (wdV B 0 k mks)) := HTw.out.sp s2 (fun t ht => by have := HT.out t (by simp [ht]); omega)
      clear hD hB2 s2 HB HS HTw xc
      cases dd with
      | false =>
        have HTw3 : Hid (Tw y2 (w.heap.size + 1) (.slice (some ⟨g1, 0, none⟩) N c1) (.slice (some ⟨g2, 0, none⟩) N c2) (wdV B 1 (k + 1) sts) (wdV B 0 (k + 1) mks)) := by rw [wd_live hdd.symm, wd_live hdd.symm]; exact HTw2
        clear hdd HTw2
        go_wp2
        go_roundw
        case rel => exact ⟨k + 1, by omega, by go_num, HB2, HS2, HTw3⟩
        case measure => simp [intOf]; omega
      | true =>
        have hw1 := wdV_len B 1 sts k
        have hw2 := wdV_len B 0 mks k
        obtain ⟨la, hla⟩ : ∃ l, l = wdV B 1 k sts := ⟨_, rfl⟩
        obtain ⟨lb, hlb⟩ : ∃ l, l = wdV B 0 k mks := ⟨_, rfl⟩
        have HLa : Hid (wdV B 1 (k + 1) sts = la.set k 1 ∧ wdV B 0 (k + 1) mks = lb.set k 0) := by rw [hla, hlb]; exact ⟨wd_dead hdd.symm, wd_dead hdd.symm⟩
        rw [← hla] at hw1 HTw2
        rw [← hlb] at hw2 HTw2
        rw [HLN.out.1] at hw1
        rw [HLN.out.2] at hw2
        obtain ⟨_, _, _, _, e1, e2, _, _, _, _, _, f1, f2, cc1, cc2⟩ := HTw2.out.shape (by omega) (by omega)
        have y1 := cc1 k (by omega)
        have y2' := cc2 k (by omega)
        simp only [Value.slice.injEq, Option.some.injEq, Addr.mk.injEq, and_true] at e1 e2
        rw [← e1.1] at y1 f1
        rw [← e2.1] at y2' f2
        obtain ⟨s1, hs1'⟩ : ∃ s, s = la.getD k 0 := ⟨_, rfl⟩
        obtain ⟨s2, hs2'⟩ : ∃ s, s = lb.getD k 0 := ⟨_, rfl⟩
        rw [← hs1'] at y1
        rw [← hs2'] at y2'
        have gB1 : v1.heap.size ≠ g1 := by omega
        have gB2 : v1.heap.size ≠ g2 := by omega
        have gne' : g2 ≠ g1 := fun h => gne h.symm
        obtain ⟨d0, d1, d2, d3, d4⟩ : Lc y2 v1.heap.size N s ep (.slice (some ⟨g1, 0, none⟩) N c1) (.slice (some ⟨g2, 0, none⟩) N c2) := ⟨HS2.out.held LN.out.c0 gV.out, HS2.out.held LN.out.c1 gV.out, HS2.out.held LN.out.c2 gV.out, HS2.out.held LN.out.c3 gV.out, HS2.out.held LN.out.c4 gV.out⟩
        have HC : ∀ U, Sp [g1, g2] y2 U → U.cell? ⟨v1.heap.size, 3, none⟩ = some (.slice (some ⟨g1, 0, none⟩) N c1) ∧ U.cell? ⟨v1.heap.size, 4, none⟩ = some (.slice (some ⟨g2, 0, none⟩) N c2) := fun U k => ⟨k.held d3 (by simp [gB1, gB2]), k.held d4 (by simp [gB1, gB2])⟩
        clear cc1 cc2 e1 e2 hs1' hs2' hla hlb hdd hw1 hw2
        have hcS : ((k : Int) < (N : Int)) := by omega
        have hc0 : (0 : Int) ≤ (k : Int) := by omega
        go_wp2_with fail
        go_region_held3 (fun U => U.cell? ⟨v1.heap.size, 3, none⟩ = some (.slice (some ⟨g1, 0, none⟩) N c1) ∧ U.cell? ⟨v1.heap.size, 4, none⟩ = some (.slice (some ⟨g2, 0, none⟩) N c2)) (first | exact HC _ (Sp.refl _ _) | exact HC _ (Sp.refl _ _).drew | exact HC _ ((Sp.refl _ _).set g1 k (by simp) _) | exact HC _ ((Sp.refl _ _).set g1 k (by simp) _).drew | exact HC _ ((Sp.refl _ _).set g2 k (by simp) _) | exact HC _ ((Sp.refl _ _).set g2 k (by simp) _).drew | exact HC _ (((Sp.refl _ _).set g1 k (by simp) _).set g2 k (by simp) _) | exact HC _ (((Sp.refl _ _).set g1 k (by simp) _).set g2 k (by simp) _).drew) (fail)
        have TZ : Hid (Tw ((y2.setCell ⟨g1, k, none⟩ (.int .i64 1)).setCell ⟨g2, k, none⟩ (.int .i64 0)).drew (w.heap.size + 1) (.slice (some ⟨g1, 0, none⟩) N c1) (.slice (some ⟨g2, 0, none⟩) N c2) (wdV B 1 (k + 1) sts) (wdV B 0 (k + 1) mks)) := by
          rw [HLa.out.1, HLa.out.2]
          exact (HTw2.out.put k 1 0).kp (Kp.refl _).drew
        have SZ : Sp [g1, g2] y2 ((y2.setCell ⟨g1, k, none⟩ (.int .i64 1)).setCell ⟨g2, k, none⟩ (.int .i64 0)).drew := (((Sp.refl _ _).set g1 k (by simp) _).set g2 k (by simp) _).drew
        have HBZ : Hid (BX w0 ((y2.setCell ⟨g1, k, none⟩ (.int .i64 1)).setCell ⟨g2, k, none⟩ (.int .i64 0)).drew b m X F B) := HB2.out.sp SZ (fun t ht hm => by
          have := HT.out t ht
          simp only [List.mem_cons, List.not_mem_nil, or_false] at hm
          omega)
        have HSZ : Hid (Sp (g1 :: g2 :: b :: m :: F) V ((y2.setCell ⟨g1, k, none⟩ (.int .i64 1)).setCell ⟨g2, k, none⟩ (.int .i64 0)).drew) := HS2.out.trans (SZ.mono (fun t ht => by
          simp only [List.mem_cons, List.not_mem_nil, or_false] at ht
          rcases ht with rfl | rfl <;> simp))
        obtain ⟨Z, hZ⟩ : ∃ Z, Z = ((y2.setCell ⟨g1, k, none⟩ (.int .i64 1)).setCell ⟨g2, k, none⟩ (.int .i64 0)).drew := ⟨_, rfl⟩
        rw [← hZ] at TZ HBZ HSZ ⊢
        clear hZ SZ HC d0 d1 d2 d3 d4 y1 y2' f1 f2 HB2 HS2 HTw2
        go_wp2
        go_roundw
        case rel => exact ⟨k + 1, by omega, by go_num, HBZ, HSZ, TZ⟩
        case measure => simp [intOf]; omega
    · have ek : k = N := by omega
      rw [ek] at HTw
      obtain ⟨b0, b1, b2, b3, b4⟩ : Lc wr v1.heap.size N s ep (.slice (some ⟨g1, 0, none⟩) N c1) (.slice (some ⟨g2, 0, none⟩) N c2) := ⟨HS.out.held LN.out.c0 gV.out, HS.out.held LN.out.c1 gV.out, HS.out.held LN.out.c2 gV.out, HS.out.held LN.out.c3 gV.out, HS.out.held LN.out.c4 gV.out⟩
      have lW := l1.out.kept KN.out
      obtain ⟨t0, t1, t2, t3, t4⟩ : Lc wr w.heap.size 0 0 0 (.slice none 0 0) (.slice none 0 0) := ⟨HS.out.held lW.c0 gW.out, HS.out.held lW.c1 gW.out, HS.out.held lW.c2 gW.out, HS.out.held lW.c3 gW.out, HS.out.held lW.c4 gW.out⟩
      have zZ : ∀ o, wr.frozen? ⟨w.heap.size, o, none⟩ = false := fun o => (HS.out.frozen (by omega) gW.out o).trans (((KN.out.sp []).frozen hs1 (by simp) o).trans (z1.out o))
      clear lW
      go_wp2
      refine bodyPost_ret (results_lb rfl _ _ w.heap.size rfl (Lc.over ⟨t0, t1, t2, t3, t4⟩)) rfl ?_
      have sp : Sp [w.heap.size] wr (over wr w.heap.size N s ep (.slice (some ⟨g1, 0, none⟩) N c1) (.slice (some ⟨g2, 0, none⟩) N c2)) := (((((Sp.refl [w.heap.size] wr).set _ 0 (by simp) _).set _ 1 (by simp) _).set _ 2 (by simp) _).set _ 3 (by simp) _).set _ 4 (by simp) _
      have spF : Sp (b :: m :: F) w (over wr w.heap.size N s ep (.slice (some ⟨g1, 0, none⟩) N c1) (.slice (some ⟨g2, 0, none⟩) N c2)) := Sp.cutN (U := w.heap.size :: g1 :: g2 :: b :: m :: F) KV.out ((HS.out.mono (fun t ht => List.mem_cons_of_mem _ ht)).trans (sp.mono (fun t ht => by rw [List.mem_singleton.1 ht]; exact List.mem_cons_self))) (fun u hu => by
        simp only [List.mem_cons] at hu ⊢
        rcases hu with hu | hu | hu | hu
        · right; omega
        · right; omega
        · right; omega
        · exact .inl hu)
      have hBF : BX w0 (over wr w.heap.size N s ep (.slice (some ⟨g1, 0, none⟩) N c1) (.slice (some ⟨g2, 0, none⟩) N c2)) b m X F B := HB.out.sp sp (fun t ht hm => by
        have := HT.out t ht
        have := List.mem_singleton.1 hm
        omega)
      refine ⟨_, _, rfl, ?_, HH.out.bayX ⟨m, X, F, rfl, hBF⟩ spF (Nw.refl _ _), spF⟩
      rw [HR.out.1, HR.out.2]
      exact (HTw.out.sp sp (fun t ht => by have := List.mem_singleton.1 ht; omega)).mono (by omega)

end Go.Proofs.YtinpkfdmellleaaGreat

namespace Go.Proofs.YtinpkfdmellleaaGreat
open Go.RowKit Plain
set_option linter.unusedVariables false

theorem Bw.fine {w0 w : World} {b : Nat} {T : List Nat} {B : BS} (h : Bw w0 w b T B) (i : Nat) (hi : i < B.ms.length) : Fine (B.ms.getD i noM) := by
  obtain ⟨m, X, F, rfl, h1⟩ := h
  obtain ⟨P, p1, ⟨bn, bl, rv, rfl, h3, h4⟩, p3⟩ := h1.atX i hi
  exact h3.fine
theorem rd_size {B : BS} {i : Nat} {a : Int} (hf : Fine (B.ms.getD i noM)) (he : rdE B i a = 0) : (rdT B i a).size = 64 := by
  unfold rdE at he
  unfold rdT
  split at he
  · rename_i h1
    rw [if_pos h1]
    unfold bm at he ⊢
    rw [Int.toNat_natCast] at he ⊢
    unfold rdS
    rw [if_pos he]
    obtain ⟨_, h2, h3⟩ := rc_ok he
    have h4 : a.toNat < (B.ms.getD i noM).now.length := by rw [hf.nn]; omega
    rw [List.getD_eq_getElem?_getD, List.getElem?_eq_getElem h4]
    exact hf.bn _ (List.getElem_mem h4)
  · rename_i h1
    exact absurd he h1
/-- behind j of the two reads of a member. -/
def rI (i : Nat) : Nat → RS → RS
  | 0, r => r
  | j + 1, r => r1 i (j : Int) (rI i j r)
theorem rI_two (i : Nat) (r : RS) : rI i 2 r = r2 r i := rfl
theorem r1_stop {r : RS} (h : r.2.2 = true) (i : Nat) (a : Int) : r1 i a r = r := by unfold r1; rw [if_pos h]
theorem rI_stop {i : Nat} {r : RS} {j : Nat} (hj : j < 2) (h : (rI i (j + 1) r).2.2 = true) : r2 r i = rI i (j + 1) r := by
  have : j = 0 ∨ j = 1 := by omega
  rcases this with rfl | rfl
  · show r1 i 1 (r1 i 0 r) = r1 i 0 r
    exact r1_stop h i 1
  · rfl
theorem r1_go {r : RS} {i : Nat} {a : Int} (h : r.2.2 = false) : r1 i a r = (rdB r.1 i a, (if rdE r.1 i a = 0 then r.2.1 ++ [rdT r.1 i a] else r.2.1), decide (rdE r.1 i a = 21)) := by unfold r1; rw [if_neg (by rw [h]; simp)]
theorem rdB_len (B : BS) (i k : Int) : (rdB B i k).ms.length = B.ms.length ∧ (rdB B i k).g = B.g ∧ (rdB B i k).pw = B.pw := by
  unfold rdB
  split
  · unfold put; simp
  · exact ⟨rfl, rfl, rfl⟩
theorem rd_dead {B : BS} {k : Nat} (hk : k < B.ms.length) (hd : ddB B k = true) : rdF (lvL 0 (B.ms.take (k + 1))) B = rdF (lvL 0 (B.ms.take k)) B := by
  rw [lvL_take B.ms k hk]
  unfold ddB at hd
  rw [hd, if_pos rfl]
theorem rd_live {B : BS} {k : Nat} (hk : k < B.ms.length) (hd : ddB B k = false) : rdF (lvL 0 (B.ms.take (k + 1))) B = r2 (rdF (lvL 0 (B.ms.take k)) B) k := by
  rw [lvL_take B.ms k hk]
  unfold ddB at hd
  rw [hd, if_neg (by simp), rdF_snoc]
theorem rd_end {B : BS} {k : Nat} (h : (rdF (lvL 0 (B.ms.take k)) B).2.2 = true) : rdF (lvL 0 B.ms) B = rdF (lvL 0 (B.ms.take k)) B := by
  obtain ⟨r, hr⟩ := lvL_pre B.ms k
  rw [hr]; exact rdF_stop _ _ B h
/-- while the labels are read: the bay, and the texts that were read, in a row of the call's own apart from it. -/
def RA (w0 V w : World) (b : Nat) (T : List Nat) (u : Value) (r : RS) : Prop := ∃ T', Bw w0 w b T' r.1 ∧ Sp T V w ∧ Nw V T T' ∧ OR w V.heap.size 9 u (r.2.1.map Value.string) ∧ (∀ q, u.ownBlock = some q → q ∉ T') ∧ (∀ t ∈ r.2.1, t.size = 64) ∧ r.1.ms.length ≤ 32
theorem RA.kp {w0 V w w' : World} {b : Nat} {T : List Nat} {u : Value} {r : RS} (h : RA w0 V w b T u r) (k : Kp w w') : RA w0 V w' b T u r := by
  obtain ⟨T', h1, h2, h3, h4, h5, h6, h7⟩ := h
  exact ⟨T', OL.bw.sp h1 (k.sp []) (fun _ _ h => by cases h), h2.trans (k.sp _), h3, h4.kp k, h5, h6, h7⟩
theorem RA.nz {w0 V w : World} {b : Nat} {T : List Nat} {u : Value} {r : RS} (h : RA w0 V w b T u r) : Nz Bw w0 V w b T r.1 := by
  obtain ⟨T', h1, h2, h3, _⟩ := h
  exact ⟨T', h1, h2, h3⟩
theorem RA.strs {w0 V w : World} {b : Nat} {T : List Nat} {u : Value} {r : RS} (h : RA w0 V w b T u r) : StrsIn w u r.2.1 := by
  obtain ⟨T', h1, h2, h3, h4, _⟩ := h
  unfold OR at h4
  rw [List.length_map] at h4
  exact StrsIn.owned h4
/-- behind one read. -/
theorem RA.read {w0 V w w' : World} {b : Nat} {T T' : List Nat} {u : Value} {r : RS} {B' : BS} (h1 : Bw w0 w b T' r.1) (h2 : Sp T V w) (h3 : Nw V T T') (h4 : OR w V.heap.size 9 u (r.2.1.map Value.string)) (h5 : ∀ q, u.ownBlock = some q → q ∉ T') (h6 : ∀ t ∈ r.2.1, t.size = 64) (h7 : B'.ms.length ≤ 32) (n : Nz Bw w0 w w' b T' B') : RA w0 V w' b T u (B', r.2.1, false) := by
  obtain ⟨T2, o2, s2, w2⟩ := n
  exact ⟨T2, o2, h2.then s2 h3, h3.trans w2 h2.size, s2.own h4 (fun g hg => h5 g hg), fun q hq => nw_nt w2 (World.ownsRow.lt h4 q hq).2 (h5 q hq), h6, h7⟩

/-- the error that reading tells. -/
def rdX (R : RS) : Int := if R.2.2 = true then 21 else 0
def RaP (w0 w w' : World) (b : Nat) (T : List Nat) (sl : Value) (R : RS) : Prop := (R.2.2 = false → StrsIn w' sl R.2.1 ∧ ∀ t ∈ R.2.1, t.size = 64) ∧ Nz Bw w0 w w' b T R.1

set_option maxRecDepth 100000 in
set_option maxHeartbeats 4000000 in
theorem readAll_any {w0 W w : World} {b : Nat} {T : List Nat} {B : BS} (h : Bw w0 w b T B) (K : Kp w0 w) (lv : Value) (hl : Lv W w lv (lvL 0 B.ms)) (hW : ∀ t, t ∈ T → t < W.heap.size) : Calls Tryz.prog 65 #[.pointer (some ⟨b, 0, none⟩), lv] w fun e w' => ∃ sl, e = .returned (.tuple #[sl, .int .i64 (rdX (rdF (lvL 0 B.ms) B))]) ∧ RaP w0 w w' b T sl (rdF (lvL 0 B.ms) B) := by
  have hgd := h.gd
  have hsz := bw_size h
  obtain ⟨N, hN⟩ : ∃ N, N = B.ms.length := ⟨_, rfl⟩
  have hb2 := hgd.n2
  rw [← hN] at hsz hb2
  have HN := hid hN
  have HL := hid hl
  have HW := hid hW
  have HB := hid h
  have HK := hid K
  have H0 : Hid (RA w0 w w b T (.slice none 0 0) (B, [], false)) := ⟨T, h, Sp.refl _ _, Nw.refl _ _, World.ownsRow_nil _ _ _ _, fun q hq => (by cases hq), fun t ht => (by cases ht), by rw [← hN]; exact hb2⟩
  obtain ⟨la, ln, lc, hlv⟩ : ∃ a n c, lv = .slice a n c := by obtain ⟨a, g, cap, h1, _⟩ := hl; exact ⟨_, _, _, h1⟩
  subst hlv
  clear h K hl hgd hN hW
  obtain ⟨R, hR⟩ : ∃ R, R = rdF (lvL 0 B.ms) B := ⟨_, rfl⟩
  have HR := hid hR
  rw [← hR]
  clear hR
  obtain ⟨EX, hEX⟩ : ∃ E, E = rdX R := ⟨_, rfl⟩
  rw [← hEX]
  have HEX := hid hEX
  clear hEX
  go_enter Tryz.func65, Tryz.ntmps65
  go_wp2_with fail
  refine hsz.mono ?_; rintro e y0 ⟨rfl, hy⟩
  subst y0
  clear hsz
  go_wp2_with fail
  go_loopw [6, 13] (fun u j wr => ∃ k : Nat, k ≤ N ∧ j = .int .i64 k ∧ Hid ((rdF (lvL 0 (B.ms.take k)) B).2.2 = false) ∧ Hid (RA w0 w wr b T u (rdF (lvL 0 (B.ms.take k)) B)) ∧ Hid ((rdF (lvL 0 (B.ms.take k)) B).2.1.length ≤ 2 * k)) (fun _ j _ => N - (intOf j).toNat)
  case atStart => exact ⟨0, by omega, by go_num, rfl, H0, Nat.zero_le _⟩
  case round =>
    clear H0
    obtain ⟨k, hk, rfl, HF, HA, HLe⟩ := hrel
    by_cases hlt : k < N
    · have hkB : k < B.ms.length := by rw [← HN.out]; exact hlt
      have hC := has_any W (.slice la ln lc) (lvL 0 B.ms) (k : Int) wr (by
        obtain ⟨T', _, s, _⟩ := HA.out
        exact HL.out.sp s (fun t ht => .inl (HW.out t ht))) (by have := lvL_len B.ms 0; have := HN.out; omega)
      rw [lv_has B k hkB] at hC
      obtain ⟨dd, hdd⟩ : ∃ d, d = ddB B k := ⟨_, rfl⟩
      rw [← hdd] at hC
      cases dd with
      | true =>
        have ed := rd_dead hkB hdd.symm
        have HF1 : Hid ((rdF (lvL 0 (B.ms.take (k + 1))) B).2.2 = false) := by rw [ed]; exact HF
        have HA1 : Hid (RA w0 w wr b T u6 (rdF (lvL 0 (B.ms.take (k + 1))) B)) := by rw [ed]; exact HA
        have HL1 : Hid ((rdF (lvL 0 (B.ms.take (k + 1))) B).2.1.length ≤ 2 * (k + 1)) := by
          show _ ≤ _
          rw [ed]; have := HLe.out; omega
        clear hdd ed HF HA HLe
        go_wp2_with fail
        refine hC.mono ?_; rintro e y1 ⟨rfl, hy⟩
        subst y1
        clear hC
        go_wp2
        go_roundw
        case rel => exact ⟨k + 1, by omega, by go_num, HF1, HA1, HL1⟩
        case measure => simp [intOf]; omega
      | false =>
        have ed := rd_live hkB hdd.symm
        obtain ⟨r, hr⟩ : ∃ r, r = rdF (lvL 0 (B.ms.take k)) B := ⟨_, rfl⟩
        rw [← hr] at HF HA HLe ed
        have ED := hid ed
        clear hdd hr ed
        go_wp2_with fail
        refine hC.mono ?_; rintro e y1 ⟨rfl, hy⟩
        subst y1
        clear hC
        rename World => wk
        go_wp2_with fail
        go_loopw [6, 20] (fun u j wr => ∃ i : Nat, i ≤ 2 ∧ j = .int .i64 i ∧ Hid ((rI k i r).2.2 = false) ∧ Hid (RA w0 w wr b T u (rI k i r)) ∧ Hid ((rI k i r).2.1.length ≤ 2 * k + i)) (fun _ j _ => 2 - (intOf j).toNat)
        case atStart => exact ⟨0, by omega, by go_num, HF, HA, HLe⟩
        case round =>
          clear HF HA HLe
          obtain ⟨i, hi, rfl, HF2, HA2, HL2⟩ := hrel
          by_cases hi2 : i < 2
          · have HKr : Hid (Kp w0 wr) := HA2.out.nz.below OL.bw HB.out HK.out
            obtain ⟨T', a1, a2, a3, a4, a5, a6, a7⟩ := HA2.out
            have hRd := bw_read a1 HKr.out k i
            have hst : rI k (i + 1) r = r1 k (i : Int) (rI k i r) := rfl
            rw [r1_go HF2.out] at hst
            have hfn : rdE (rI k i r).1 k i = 0 → (rdT (rI k i r).1 k i).size = 64 := fun he => by
              have hle : k < (rI k i r).1.ms.length := by
                unfold rdE stE fdE at he
                by_cases hh : 0 ≤ (k : Int) ∧ (k : Int) < (rI k i r).1.ms.length
                · omega
                · rw [if_neg hh] at he; simp at he
              exact rd_size (a1.fine k hle) he
            have hNx : ∀ w', Nz Bw w0 wr w' b T' (rdB (rI k i r).1 k i) → RA w0 w w' b T u6 (rdB (rI k i r).1 k i, (rI k i r).2.1, false) := fun w' n => RA.read a1 a2 a3 a4 a5 a6 (by rw [(rdB_len _ _ _).1]; exact a7) n
            have HNx := hid hNx
            have HLen : Hid ((rI k i r).2.1.length ≤ 2 * k + i) := HL2
            obtain ⟨E, hE⟩ : ∃ E, E = rdE (rI k i r).1 k i := ⟨_, rfl⟩
            obtain ⟨S, hS⟩ : ∃ S, S = rdT (rI k i r).1 k i := ⟨_, rfl⟩
            obtain ⟨B1, hB1⟩ : ∃ B, B = rdB (rI k i r).1 k i := ⟨_, rfl⟩
            obtain ⟨l1, hl1⟩ : ∃ l, l = (rI k i r).2.1 := ⟨_, rfl⟩
            rw [← hE, ← hS] at hfn hRd
            rw [← hB1] at hRd HNx
            rw [← hl1] at HNx HLen
            rw [← hE, ← hS, ← hB1, ← hl1] at hst
            have HST := hid hst
            have Hfn := hid hfn
            clear hE hS hB1 hl1 hst hfn a1 a2 a3 a4 a5 a6 a7 hNx HA2 HF2 HL2
            go_wp2_with fail
            refine hRd.mono ?_; rintro e y2 ⟨rfl, n2⟩
            have HA3 := hid (HNx.out y2 n2)
            clear hRd n2 HNx
            by_cases h21 : E = 21
            · have e1 : rI k (i + 1) r = (B1, l1, true) := by
                rw [HST.out, h21, decide_eq_true rfl, if_neg (by omega)]
              have e2 : R = (B1, l1, true) := by
                have h3 := rI_stop (i := k) (r := r) hi2 (by rw [e1])
                rw [HR.out, rd_end (k := k + 1) (by rw [ED.out, h3, e1]), ED.out, h3, e1]
              have HF : Hid (R = (B1, l1, true)) := e2
              subst h21
              clear e1 e2 HST Hfn
              go_wp2
              go_ret2
              refine ⟨.slice none 0 0, ?_, ?_, ?_⟩
              · rw [HEX.out, HF.out]; rfl
              · rw [HF.out]; exact fun h => by cases h
              · rw [HF.out]; exact HA3.out.nz
            · have b21 : (E == 21) = false := by simpa using h21
              by_cases h0 : E = 0
              · have e1 : rI k (i + 1) r = (B1, l1 ++ [S], false) := by
                  rw [HST.out, decide_eq_false h21, if_pos h0]
                have h64 := Hfn.out h0
                have HE1 := hid e1
                obtain ⟨T3, a1, a2, a3, a4, a5, a6, a7⟩ := HA3.out
                dsimp only at a1 a4 a6 a7
                have HAs : Hid (Bw w0 y2 b T3 B1 ∧ Sp T w y2 ∧ Nw w T T3 ∧ (∀ q, u6.ownBlock = some q → q ∉ T3) ∧ (∀ t ∈ l1, t.size = 64) ∧ B1.ms.length ≤ 32) := ⟨a1, a2, a3, a5, a6, a7⟩
                have HOr : Hid (OR y2 w.heap.size 9 u6 (l1.map Value.string)) := a4
                have hsz2 := a2.size
                have HLq : Hid ((l1.map Value.string).length ≤ 100) := by show _ ≤ _; rw [List.length_map]; have := HLen.out; omega
                have h640 := hid h64
                subst h0
                clear e1 h64 a1 a2 a3 a4 a5 a6 a7 HST Hfn HA3 h21 b21
                go_wp2_with (at_builtin; refine wpList_append_or2 rfl _ _ 70 9 (.string ByteArray.empty) 16 Tryz.underlying70 info_str rfl (by omega) rfl w.heap.size _ _ rfl (HOr.out.kp ((Kp.refl y2).alloc (.cells #[.string S] 9))) (.string S) rfl _ rfl (by rw [World.cell?_alloc_at _ _ _ _ rfl]; rfl) (by have := HLq.out; omega) (by simp; omega) ?_)
                intro v' y3 ho3 hg3 hv3
                have kal : Kp y2 (y2.alloc (.cells #[.string S] 9)) := (Kp.refl y2).alloc _
                have sp3 : Sp u6.ownBlock.toList y2 y3 := (kal.sp _).trans (Sp.grown hg3)
                have HA4 : Hid (RA w0 w y3 b T v' (rI k (i + 1) r)) := by
                  obtain ⟨a1, a2, a3, a5, a6, a7⟩ := HAs.out
                  have low := OL.bw.low a1
                  have q0 : ∀ q, u6.ownBlock = some q → w.heap.size ≤ q ∧ q < y2.heap.size := fun q hq => World.ownsRow.lt HOr.out q hq
                  show RA w0 w y3 b T v' (rI k (i + 1) r)
                  rw [HE1.out]
                  refine ⟨T3, OL.bw.sp a1 sp3 (fun t ht hm => a5 t (by simpa using hm) ht), Sp.cutN (Kp.refl w) (U := u6.ownBlock.toList ++ T) ((a2.mono (fun t ht => by simp [ht])).trans (sp3.mono (fun t ht => by simp at ht; simp [ht]))) (fun q hq => ?_), a3, ?_, fun q hq => ?_, ?_, a7⟩
                  · rcases List.mem_append.1 hq with hq | hq
                    · right; exact (q0 q (by simpa using hq)).1
                    · exact .inl hq
                  · show OR y3 w.heap.size 9 v' ((l1 ++ [S]).map Value.string)
                    rw [List.map_append]; exact ho3
                  · rcases hv3 with e | e
                    · exact a5 q (e ▸ hq)
                    · rw [e] at hq
                      have hqq : y2.heap.size + 1 = q := by injection hq
                      intro ht
                      have h1 := low q ht
                      have h2 := kal.size
                      omega
                  · intro t ht
                    rcases List.mem_append.1 ht with ht | ht
                    · exact a6 t ht
                    · rw [List.mem_singleton.1 ht]; exact h640.out
                have HF4 : Hid ((rI k (i + 1) r).2.2 = false) := by show _ = _; rw [HE1.out]
                have HL4 : Hid ((rI k (i + 1) r).2.1.length ≤ 2 * k + (i + 1)) := by
                  show _ ≤ _
                  rw [HE1.out]
                  have := HLen.out
                  simp; omega
                clear ho3 hg3 hv3 kal sp3
                go_wp2
                go_roundw
                case rel => exact ⟨i + 1, by omega, by go_num, HF4, HA4, HL4⟩
                case measure => simp [intOf]; omega
              · have b0 : (E == 0) = false := by simpa using h0
                have e1 : rI k (i + 1) r = (B1, l1, false) := by
                  rw [HST.out, decide_eq_false h21, if_neg h0]
                have HA4 : Hid (RA w0 w y2 b T u6 (rI k (i + 1) r)) := by rw [e1]; exact HA3
                have HF4 : Hid ((rI k (i + 1) r).2.2 = false) := by show _ = _; rw [e1]
                have HL4 : Hid ((rI k (i + 1) r).2.1.length ≤ 2 * k + (i + 1)) := by
                  show _ ≤ _
                  rw [e1]
                  have := HLen.out
                  dsimp only
                  omega
                clear e1 HST Hfn HA3
                go_wp2
                go_roundw
                case rel => exact ⟨i + 1, by omega, by go_num, HF4, HA4, HL4⟩
                case measure => simp [intOf]; omega
          · have ei : i = 2 := by omega
            rw [ei, rI_two] at HF2 HA2 HL2
            rw [← ED.out] at HF2 HA2 HL2
            have HL3 : Hid ((rdF (lvL 0 (B.ms.take (k + 1))) B).2.1.length ≤ 2 * (k + 1)) := HL2
            go_wp2
            go_roundw
            case rel => exact ⟨k + 1, by omega, by go_num, HF2, HA2, HL3⟩
            case measure => simp [intOf]; omega
    · have ek : k = N := by omega
      rw [ek, List.take_of_length_le (by rw [← HN.out]; omega), ← HR.out] at HF HA
      go_wp2
      go_ret2
      refine ⟨_, ?_, fun _ => ⟨HA.out.strs, ?_⟩, HA.out.nz⟩
      · rw [HEX.out]; unfold rdX; rw [HF.out]; rfl
      · obtain ⟨_, _, _, _, _, _, a6, _⟩ := HA.out
        exact a6

end Go.Proofs.YtinpkfdmellleaaGreat

namespace Go.Proofs.YtinpkfdmellleaaGreat
open Go.RowKit Plain
set_option linter.unusedVariables false

/-- bays alike but for counts. -/
structure Sm (B B' : BS) : Prop where
  pw : B'.pw = B.pw
  g : B'.g = B.g
  md : B'.md = B.md
  len : B'.ms.length = B.ms.length
  at_ : ∀ i, (B'.ms.getD i noM).now = (B.ms.getD i noM).now ∧ (B'.ms.getD i noM).las = (B.ms.getD i noM).las ∧ (B'.ms.getD i noM).dead = (B.ms.getD i noM).dead ∧ (B'.ms.getD i noM).row = (B.ms.getD i noM).row
theorem Sm.refl (B : BS) : Sm B B := ⟨rfl, rfl, rfl, rfl, fun _ => ⟨rfl, rfl, rfl, rfl⟩⟩
theorem Sm.trans {A B C : BS} (h : Sm A B) (k : Sm B C) : Sm A C := ⟨k.pw.trans h.pw, k.g.trans h.g, k.md.trans h.md, k.len.trans h.len, fun i => ⟨(k.at_ i).1.trans (h.at_ i).1, (k.at_ i).2.1.trans (h.at_ i).2.1, (k.at_ i).2.2.1.trans (h.at_ i).2.2.1, (k.at_ i).2.2.2.trans (h.at_ i).2.2.2⟩⟩
theorem rd_same (S : MS) (k : Int) : (rd S k).now = S.now ∧ (rd S k).las = S.las ∧ (rd S k).dead = S.dead ∧ (rd S k).row = S.row := by
  unfold rd; split <;> exact ⟨rfl, rfl, rfl, rfl⟩
theorem Sm.rd (B : BS) (i k : Int) : Sm B (rdB B i k) := by
  unfold rdB
  split
  · rename_i h
    have hlt := (bm_mem (stE_ok h).1).2.2.1
    refine ⟨rfl, rfl, rfl, by unfold put; simp, fun j => ?_⟩
    unfold put
    by_cases e : i.toNat = j
    · subst e
      show ((B.ms.set i.toNat _).getD i.toNat noM).now = _ ∧ _
      rw [getD_set_eq hlt]
      exact rd_same _ _
    · show ((B.ms.set i.toNat _).getD j noM).now = _ ∧ _
      rw [getD_set_ne e]
      exact ⟨rfl, rfl, rfl, rfl⟩
  · exact Sm.refl B
theorem Sm.r1 (i : Nat) (a : Int) (r : RS) : Sm r.1 (r1 i a r).1 := by
  unfold Go.Proofs.YtinpkfdmellleaaGreat.r1
  split
  · exact Sm.refl _
  · exact Sm.rd _ _ _
theorem Sm.fold : ∀ (l : List Nat) (r : RS), Sm r.1 (l.foldl r2 r).1
  | [], r => Sm.refl _
  | i :: l, r => by
    rw [List.foldl_cons]
    exact ((Sm.r1 i 0 r).trans (Sm.r1 i 1 _)).trans (Sm.fold l (r2 r i))
theorem Sm.rdF (l : List Nat) (B : BS) : Sm B (rdF l B).1 := Sm.fold l (B, [], false)
theorem Ev.sm {B B' : BS} {z : Nat} (h : Ev B z) (k : Sm B B') : Ev B' z := fun i hi => by
  rw [(k.at_ i).1, (k.at_ i).2.1]
  exact h i (by rw [← k.len]; exact hi)
theorem nw_good {l : List ByteArray} : ∀ k, nwF l k = true → lg (nwL l k) = true
  | 0, h => by cases h
  | k + 1, h => by
    by_cases hc : gtE (l.getD k noS) = 0 ∧ (nwL l k).ep < (gtL (l.getD k noS)).ep
    · rw [(nw_yes hc).1, gtL_ok hc.1]
      exact (gtE_is hc.1).2.1
    · rw [(nw_no hc).2] at h
      rw [(nw_no hc).1]
      exact nw_good k h
theorem StrsIn.sl {w : World} {v : Value} {l : List ByteArray} (h : StrsIn w v l) : ∃ a n c, v = .slice a n c := by
  cases h with
  | empty a cap h => exact ⟨_, _, _, rfl⟩
  | some b off cap l h0 h1 h2 hc => exact ⟨_, _, _, rfl⟩
/-- what Open leaves. -/
def OpX (w0 w w' : World) (b : Nat) (T : List Nat) (p : Value) (E : Int) (K : KS) : Prop := (E = 0 → ∃ x, p = .pointer (some ⟨x, 0, none⟩) ∧ w.heap.size ≤ x ∧ ∃ T' sv mv, KX w0 w' x b T' K sv mv ∧ Sp T w w' ∧ Nw w T T' ∧ ∀ q, (sv.ownBlock = some q ∨ mv.ownBlock = some q) → w.heap.size ≤ q) ∧ (E ≠ 0 → p = .pointer none ∧ Nz Bw w0 w w' b T K.b)

set_option maxRecDepth 100000 in
set_option maxHeartbeats 4000000 in
theorem open_any {w0 w : World} {b : Nat} {T : List Nat} {B : BS} (h : Bw w0 w b T B) (K : Kp w0 w) {z : Nat} (ev : Ev B z) (hep : (opnL B).ep < 9007199254740992) (hg : B.g + 100 < 1000000) : Calls Tryz.prog 21 #[.pointer (some ⟨b, 0, none⟩)] w fun e w' => ∃ p, e = .returned (.tuple #[p, .int .i64 (opnE B)]) ∧ OpX w0 w w' b T p (opnE B) (opnK B) := by
  have hgd := h.gd
  have hL := bw_live h
  have HT : Hid (∀ t, t ∈ T → t < w.heap.size) := OL.bw.low h
  have HTn : Hid (∀ t, t ∈ T → w0.heap.size ≤ t) := OL.bw.new h
  have HH := hid h
  have HK := hid K
  have HE := hid (Eq.refl (opnE B))
  obtain ⟨E, eE⟩ : ∃ E, E = opnE B := ⟨_, rfl⟩
  obtain ⟨KK, eK⟩ : ∃ E, E = opnK B := ⟨_, rfl⟩
  rw [← eE, ← eK]
  have HEE : Hid (E = opnE B) := eE
  have HEK : Hid (KK = opnK B) := eK
  obtain ⟨M, hM⟩ : ∃ M, M = (lvL 0 B.ms).length := ⟨_, rfl⟩
  have HM := hid hM
  have hM2 := lvL_len B.ms 0
  have hb2 := hgd.n2
  rw [← hM] at hM2
  clear h K eE eK hM HE
  go_enter Tryz.func21, Tryz.ntmps21
  go_wp2_with fail
  refine hL.mono ?_; rintro e v1 ⟨lv, rfl, hl, hB1, s1⟩
  have HB1 := hid hB1
  have HS1 := hid s1
  have HL1 := hid hl
  have HK1 : Hid (Kp w0 v1) := Sp.kp HK.out s1 HTn.out
  obtain ⟨la, lg_, lc, hlv, hc1, hc2, _, _⟩ := hl
  subst hlv
  rw [← HM.out] at hc1 HL1 ⊢
  clear hL hB1 s1
  by_cases hM0 : M = 0
  · have hx : opnX B = 20 := if_pos (by rw [← HM.out]; exact hM0)
    have hF : Hid (E = 20 ∧ KK.b = B) := by
      refine ⟨by rw [HEE.out]; unfold opnE; rw [if_neg (by rw [hx]; omega), hx], ?_⟩
      rw [HEK.out]; unfold opnK opnQ
      rw [if_neg (by rw [hx]; omega), if_pos (by rw [← HM.out]; exact hM0)]
    have hE := hF.out.1
    subst hE
    subst hM0
    clear hx
    go_wp2
    go_ret2
    exact ⟨_, rfl, fun h => absurd h (by omega), fun _ => ⟨rfl, by rw [hF.out.2]; exact ⟨T, HB1.out, HS1.out, Nw.refl _ _⟩⟩⟩
  · have hM0i : ¬ (M : Int) = 0 := by omega
    have hb0 : ((M : Int) == 0) = false := by simpa using hM0
    have hRd := readAll_any (W := w) HB1.out HK1.out (.slice la M lc) HL1.out HT.out
    obtain ⟨R, hR⟩ : ∃ R, R = rdF (lvL 0 B.ms) B := ⟨_, rfl⟩
    have HR := hid hR
    rw [← hR] at hRd
    obtain ⟨X1, hX1⟩ : ∃ X, X = rdX R := ⟨_, rfl⟩
    rw [← hX1] at hRd
    have HX1 := hid hX1
    clear hR hX1
    have hQ : Hid (opnQ B = ⟨R.1, opnL B⟩) := by
      show opnQ B = _
      unfold opnQ
      rw [if_neg (by rw [← HM.out]; exact hM0), HR.out]
    have hXX : Hid (opnX B = if R.2.2 = true then 21 else if nwF R.2.1 R.2.1.length = false then 11 else if ftB R.1 (opnL B).n (opnL B).s = false then 2 else 0) := by
      show opnX B = _
      unfold opnX
      rw [if_neg (by rw [← HM.out]; exact hM0), ← HR.out]
    have hLL : Hid (opnL B = nwL R.2.1 R.2.1.length) := by
      show opnL B = _
      unfold opnL
      rw [← HR.out]
    have hEnd : Hid (opnX B ≠ 0 → E = opnX B ∧ KK.b = R.1) := fun hx => by
      refine ⟨by rw [HEE.out]; unfold opnE; rw [if_neg hx], ?_⟩
      rw [HEK.out]; unfold opnK
      rw [if_neg hx, hQ.out]
    go_wp2_with fail
    refine hRd.mono ?_; rintro e v2 ⟨sl, rfl, hra⟩
    have HRA := hid hra
    have HK2 : Hid (Kp w0 v2) := hra.2.below OL.bw HB1.out HK1.out
    have HN2 : Hid (Nz Bw w0 w v2 b T R.1) := by
      obtain ⟨T2, o2, s2, n2⟩ := hra.2
      exact ⟨T2, o2, HS1.out.trans s2, fun t ht => (n2 t ht).imp id (fun h => Nat.le_trans HS1.out.size h)⟩
    clear hRd hra
    cases hst : R.2.2 with
    | true =>
      have hX : X1 = 21 := by rw [HX1.out]; unfold rdX; rw [if_pos hst]
      have hF : Hid (E = 21 ∧ KK.b = R.1) := by
        have hx : opnX B = 21 := by rw [hXX.out, if_pos hst]
        have := hEnd.out (by rw [hx]; omega)
        rw [hx] at this; exact this
      have hE := hF.out.1
      subst hE
      subst hX
      go_wp2
      go_ret2
      exact ⟨_, rfl, fun h => absurd h (by omega), fun _ => ⟨rfl, by rw [hF.out.2]; exact HN2.out⟩⟩
    | false =>
      have hX : X1 = 0 := by rw [HX1.out]; unfold rdX; rw [if_neg (by rw [hst]; simp)]
      obtain ⟨hSt, hSz⟩ := HRA.out.1 hst
      have hXY : Hid (opnX B = if nwF R.2.1 R.2.1.length = false then 11 else if ftB R.1 (opnL B).n (opnL B).s = false then 2 else 0) := by
        show opnX B = _
        rw [hXX.out, if_neg (by rw [hst]; simp)]
      have hNw := newestN_any sl R.2.1 v2 hSt (fun i hi => by
        rw [List.getD_eq_getElem?_getD, List.getElem?_eq_getElem hi]
        have := hSz _ (List.getElem_mem hi)
        show (R.2.1[i]).size ≤ _
        omega)
      rw [← hLL.out] at hNw
      obtain ⟨sla, sln, slc, hsl⟩ : ∃ a n c, sl = .slice a n c := hSt.sl
      subst hsl
      have hgood : nwF R.2.1 R.2.1.length = true → lg (opnL B) = true := fun h => by rw [hLL.out]; exact nw_good _ h
      obtain ⟨F, hF⟩ : ∃ F, F = nwF R.2.1 R.2.1.length := ⟨_, rfl⟩
      rw [← hF] at hNw hXY hgood
      obtain ⟨L, hL⟩ : ∃ L, L = opnL B := ⟨_, rfl⟩
      rw [← hL] at hNw hXY hQ hgood hep
      obtain ⟨n, s, ep, sts, mks⟩ := L
      have Hgood := hid hgood
      subst hX
      clear hF hL hSt hSz hgood hXX hLL HRA hst
      dsimp only at hNw hXY hep
      unfold lV at hNw
      go_wp2_with fail
      refine hNw.mono ?_; rintro e v3 ⟨u1, u2, rfl, m1, m2, k3⟩
      have HK3 : Hid (Kp w0 v3) := HK2.out.trans k3
      have HN3 : Hid (Nz Bw w0 w v3 b T R.1) := HN2.out.kp OL.bw k3
      have hv3 : Hid (v2.heap.size ≤ v3.heap.size) := k3.size
      have K23 : Hid (Kp v2 v3) := k3
      obtain ⟨a1, g1, o1, c1, rfl, A1, B1⟩ := m1
      obtain ⟨a2, g2, o2, c2, rfl, A2, B2⟩ := m2
      have HM1 : Hid (Nl v3 (.slice a1 sts.length c1) sts) := ⟨_, _, _, _, rfl, A1⟩
      have HM2 : Hid (Nl v3 (.slice a2 mks.length c2) mks) := ⟨_, _, _, _, rfl, A2⟩
      have HG1 : Hid (0 < sts.length → a1 = some ⟨g1, o1, none⟩ ∧ v2.heap.size ≤ g1) := fun h => ⟨A1.ha h, B1 h⟩
      have HG2 : Hid (0 < mks.length → a2 = some ⟨g2, o2, none⟩ ∧ v2.heap.size ≤ g2) := fun h => ⟨A2.ha h, B2 h⟩
      clear hNw k3 A1 A2 B1 B2
      cases F with
      | false =>
        have hF : Hid (E = 11 ∧ KK.b = R.1) := by
          have hx : opnX B = 11 := by rw [hXY.out, if_pos rfl]
          have := hEnd.out (by rw [hx]; omega)
          rw [hx] at this; exact this
        have hE := hF.out.1
        subst hE
        go_wp2
        go_ret2
        exact ⟨_, rfl, fun h => absurd h (by omega), fun _ => ⟨rfl, by rw [hF.out.2]; exact HN3.out.kp OL.bw ((Kp.refl _).alloc _)⟩⟩
      | true =>
        have hgo := Hgood.out rfl
        have hgl := (lg_iff _).1 hgo
        dsimp only at hgl
        obtain ⟨gg0, ge1, ge2, gl1, gl2, gm⟩ := hgl
        obtain ⟨q1, q2, q3, q4⟩ := (gg_iff _ _).1 gg0
        have hsm : Sm B R.1 := by rw [HR.out]; exact Sm.rdF _ _
        have hev : Ev R.1 z := ev.sm hsm
        have KU : Hid (Kp v3 (v3.alloc (.cells #[.int .i64 n, .int .i64 s, .int .i64 ep, .slice a1 sts.length c1, .slice a2 mks.length c2] 63))) := (Kp.refl v3).alloc _
        have LU : Hid (Lc (v3.alloc (.cells #[.int .i64 n, .int .i64 s, .int .i64 ep, .slice a1 sts.length c1, .slice a2 mks.length c2] 63)) v3.heap.size n s ep (.slice a1 sts.length c1) (.slice a2 mks.length c2)) := Lc.new v3 _ _ _ _ _ _
        obtain ⟨U, hU⟩ : ∃ U, U = v3.alloc (.cells #[.int .i64 n, .int .i64 s, .int .i64 ep, .slice a1 sts.length c1, .slice a2 mks.length c2] 63) := ⟨_, rfl⟩
        have HU := hid hU
        rw [← hU] at KU LU
        obtain ⟨T3, hB2, hS2, hN3⟩ := HN2.out
        have hB3 : Bw w0 v3 b T3 R.1 := OL.bw.sp hB2 (K23.out.sp []) (fun _ _ h => by cases h)
        have hS3 : Sp T w v3 := hS2.trans (K23.out.sp _)
        have HT32 : Hid (∀ t, t ∈ T3 → t < v2.heap.size) := OL.bw.low hB2
        clear hB2 hS2
        have hFt := fits_any (OL.bw.sp hB3 (KU.out.sp []) (fun _ _ h => by cases h)) hev n s gg0
        have HB3 := hid hB3
        have HS3 : Hid (Sp T w v3 ∧ Nw w T T3) := ⟨hS3, hN3⟩
        unfold gV at hFt
        obtain ⟨D, hD⟩ : ∃ D, D = ftB R.1 n s := ⟨_, rfl⟩
        rw [← hD] at hFt hXY
        have HD := hid hD
        have Hsm := hid hsm
        obtain ⟨nS, hnS⟩ : ∃ k, k = sts.length := ⟨_, rfl⟩
        obtain ⟨nM, hnM⟩ : ∃ k, k = mks.length := ⟨_, rfl⟩
        have HnS := hid hnS
        have HnM := hid hnM
        rw [← hnS] at gl1 LU HM1 HG1 HU
        rw [← hnM] at gl2 LU HM2 HG2 HU
        have Hgm := hid gm
        clear hU hB3 hS3 hN3 hD hsm hnS gm hnM
        go_upto_region 12 with fail
        rw [← HnS.out, ← HnM.out, ← HU.out]
        obtain ⟨d0, d1, d2, d3, d4⟩ := LU.out
        clear HU
        go_wp2_with fail
        refine hFt.mono ?_; rintro e v4 ⟨rfl, k4⟩
        have K34 : Hid (Kp v3 v4) := KU.out.trans k4
        have HK4 : Hid (Kp w0 v4) := HK3.out.trans K34.out
        have HN4 : Hid (Nz Bw w0 w v4 b T R.1) := HN3.out.kp OL.bw K34.out
        have L4 := LU.out.kept k4
        obtain ⟨d0, d1, d2, d3, d4⟩ := L4
        clear hFt k4 LU KU
        cases D with
        | false =>
          have hF : Hid (E = 2 ∧ KK.b = R.1) := by
            have hx : opnX B = 2 := by rw [hXY.out, if_neg (by simp), if_pos rfl]
            have := hEnd.out (by rw [hx]; omega)
            rw [hx] at this; exact this
          have hE := hF.out.1
          subst hE
          go_wp2
          go_ret2
          exact ⟨_, rfl, fun h => absurd h (by omega), fun _ => ⟨rfl, by rw [hF.out.2]; exact HN4.out⟩⟩
        | true =>
          have hx0 : opnX B = 0 := by rw [hXY.out, if_neg (by simp), if_neg (by simp)]
          have hF : Hid (E = puE' ⟨R.1, ⟨n, s, ep, sts, mks⟩⟩ (wdL R.1 ⟨n, s, ep, sts, mks⟩) ∧ KK = puK ⟨R.1, ⟨n, s, ep, sts, mks⟩⟩ (wdL R.1 ⟨n, s, ep, sts, mks⟩)) := by
            refine ⟨?_, ?_⟩
            · rw [HEE.out]; unfold opnE; rw [if_pos hx0, hQ.out]
            · rw [HEK.out]; unfold opnK; rw [if_pos hx0, hQ.out]
          have hmn : (R.1.ms.length : Int) = n := by
            have h1 := HD.out
            unfold ftB at h1
            exact (of_decide_eq_true h1.symm).1
          clear hXY hEnd hx0 HD
          have kX : Kp v4 (v4.alloc (.cells #[.pointer (some ⟨b, 0, none⟩), .int .i64 n, .int .i64 s, .int .i64 ep, .slice a1 nS c1, .slice a2 nM c2] 146)) := (Kp.refl v4).alloc _
          have hxc : ∀ (j : Nat) (v : Value), #[Value.pointer (some ⟨b, 0, none⟩), .int .i64 n, .int .i64 s, .int .i64 ep, .slice a1 nS c1, .slice a2 nM c2][j]? = some v → (v4.alloc (.cells #[.pointer (some ⟨b, 0, none⟩), .int .i64 n, .int .i64 s, .int .i64 ep, .slice a1 nS c1, .slice a2 nM c2] 146)).cell? ⟨v4.heap.size, j, none⟩ = some v := fun j v hv => by
            rw [World.cell?_alloc_at _ _ _ _ rfl]; exact hv
          have hT3l := OL.bw.low HB3.out
          have hs34 := K34.out.size
          have hs5 : (v4.alloc (.cells #[.pointer (some ⟨b, 0, none⟩), .int .i64 n, .int .i64 s, .int .i64 ep, .slice a1 nS c1, .slice a2 nM c2] 146)).heap.size = v4.heap.size + 1 := by simp
          have nT3 : v4.heap.size ∉ T3 := fun ht => by have := hT3l _ ht; omega
          have g1n : ∀ q, Value.ownBlock (.slice a1 nS c1) = some q → v2.heap.size ≤ q ∧ q < v3.heap.size := fun q hq => by
            obtain ⟨e1, e2⟩ := HG1.out (by omega)
            rw [e1] at hq
            have hgq : g1 = q := by injection hq
            subst hgq
            exact ⟨e2, HM1.out.lt (by rw [← HnS.out]; omega) g1 (by rw [e1]; rfl)⟩
          have g2n : ∀ q, Value.ownBlock (.slice a2 nM c2) = some q → v2.heap.size ≤ q ∧ q < v3.heap.size := fun q hq => by
            obtain ⟨e1, e2⟩ := HG2.out (by omega)
            rw [e1] at hq
            have hgq : g2 = q := by injection hq
            subst hgq
            exact ⟨e2, HM2.out.lt (by rw [← HnM.out]; omega) g2 (by rw [e1]; rfl)⟩
          have hT3 : ∀ t, t ∈ T3 → t < v2.heap.size := HT32.out
          have X5 : KX w0 (v4.alloc (.cells #[.pointer (some ⟨b, 0, none⟩), .int .i64 n, .int .i64 s, .int .i64 ep, .slice a1 nS c1, .slice a2 nM c2] 146)) v4.heap.size b T3 ⟨R.1, ⟨n, s, ep, sts, mks⟩⟩ (.slice a1 nS c1) (.slice a2 nM c2) := by
            refine ⟨by omega, by have := HK4.out.size; omega, nT3, hxc 0 _ rfl, hxc 1 _ rfl, hxc 2 _ rfl, hxc 3 _ rfl, hxc 4 _ rfl, hxc 5 _ rfl, fun o => by simp, OL.bw.sp HB3.out ((K34.out.trans kX).sp []) (fun _ _ h => by cases h), HM1.out.kept (K34.out.trans kX), HM2.out.kept (K34.out.trans kX), fun q hq => ?_, fun q hq => ?_⟩
            · obtain ⟨h1, h2⟩ := g1n q hq
              refine ⟨fun hm => ?_, by omega⟩
              rcases List.mem_cons.1 hm with e | e
              · omega
              · have := hT3 q e; omega
            · obtain ⟨h1, h2⟩ := g2n q hq
              refine ⟨fun hm => ?_, by omega⟩
              rcases List.mem_cons.1 hm with e | e
              · omega
              · have := hT3 q e; omega
          have HX5 := hid X5
          have HKX := hid kX
          obtain ⟨V5, hV5⟩ : ∃ V, V = v4.alloc (.cells #[.pointer (some ⟨b, 0, none⟩), .int .i64 n, .int .i64 s, .int .i64 ep, .slice a1 nS c1, .slice a2 nM c2] 146) := ⟨_, rfl⟩
          have HV5 := hid hV5
          rw [← hV5] at HX5 HKX hs5
          have HK5 : Hid (Kp w0 V5) := HK4.out.trans HKX.out
          have hWd := withoutDead_any HX5.out HK5.out hmn (by show sts.length = R.1.ms.length; rw [← HnS.out]; omega) (by show mks.length = R.1.ms.length; rw [← HnM.out]; omega)
          have HT3l := hid hT3l
          clear hV5 X5 kX hxc nT3 g1n g2n hT3l
          unfold lV at hWd
          dsimp only at hWd
          go_upto_region 15 with fail
          rw [← HV5.out]
          clear HV5 d0 d1 d2 d3 d4
          go_wp2_with fail
          refine hWd.mono ?_; rintro e v6 ⟨y1, y2, rfl, tw, X6, s6⟩
          obtain ⟨f1, f2, f3, rfl⟩ := tw.1.shape
          obtain ⟨f4, f5, f6, rfl⟩ := tw.2.1.shape
          have HK6 : Hid (Kp w0 v6) := Sp.kp HK5.out s6 (OL.bw.new HX5.out.bay)
          have hPb := publish_any X6 HK6.out (wdL R.1 ⟨n, s, ep, sts, mks⟩) (.slice f1 f2 f3) (.slice f4 f5 f6) hmn tw.n1 tw.n2 (fun q hq => by
              obtain ⟨h1, h2⟩ := tw.lo1 q hq
              refine ⟨fun hm => ?_, h2⟩
              rcases List.mem_cons.1 hm with e | e
              · omega
              · have := HT3l.out q e; omega) (fun q hq => by
              obtain ⟨h1, h2⟩ := tw.lo2 q hq
              refine ⟨fun hm => ?_, h2⟩
              rcases List.mem_cons.1 hm with e | e
              · omega
              · have := HT3l.out q e; omega) (by show (0 : Int) ≤ ep; omega) (by show ep < _; exact hep) (by rw [Hsm.out.g]; exact hg)
          rw [← hF.out.1, ← hF.out.2] at hPb
          unfold lV at hPb
          have HS6 : Hid (Sp T3 V5 v6) := s6
          have HTW : Hid (∀ q, (Value.ownBlock (.slice f1 f2 f3) = some q ∨ Value.ownBlock (.slice f4 f5 f6) = some q) → V5.heap.size ≤ q) := fun q hq => hq.elim (fun h => (tw.lo1 q h).1) (fun h => (tw.lo2 q h).1)
          clear hWd tw X6 s6
          go_wp2_with fail
          refine hPb.mono ?_; rintro e v7 ⟨rfl, ⟨T7, s7, m7, X7, q7, n7⟩, hY7⟩
          have HY7 := hid hY7
          have HX7 := hid X7
          have HS7 : Hid (Sp T w v7) := by
            have k35 : Kp v3 V5 := K34.out.trans HKX.out
            have h1 : Sp (v4.heap.size :: T3) v3 v7 := ((k35.sp _).trans (HS6.out.mono (fun t ht => List.mem_cons_of_mem _ ht))).trans q7
            have h2 : Sp T3 v3 v7 := Sp.cutN (Kp.refl v3) h1 (fun u hu => by
              rcases List.mem_cons.1 hu with e | e
              · right; omega
              · exact .inl e)
            exact HS3.out.1.then h2 HS3.out.2
          have HN7 : Hid (Nw w T T7) := fun t ht => by
            have hws : w.heap.size ≤ v6.heap.size := by have := HS3.out.1.size; have := K34.out.size; have := HKX.out.size; have := HS6.out.size; omega
            rcases n7 t ht with h | h
            · exact HS3.out.2 t h
            · exact .inr (Nat.le_trans hws h)
          clear X7 q7 n7 hPb hY7
          by_cases hE0 : E = 0
          · have hEP : puE' ⟨R.1, ⟨n, s, ep, sts, mks⟩⟩ (wdL R.1 ⟨n, s, ep, sts, mks⟩) = 0 := hF.out.1.symm.trans hE0
            have HYY : Hid (∃ T', KX w0 v7 v4.heap.size b T' KK (.slice f1 f2 f3) (.slice f4 f5 f6) ∧ Sp (v4.heap.size :: T3) v6 v7 ∧ Nw v6 T3 T') := HY7.out hE0
            clear hEP
            subst hE0
            go_wp2
            go_ret2
            obtain ⟨T8, Z1, Z2, Z3⟩ := HYY.out
            refine ⟨_, rfl, fun _ => ⟨v4.heap.size, rfl, ?_, T8, .slice f1 f2 f3, .slice f4 f5 f6, Z1, HS7.out, fun t ht => ?_, fun q hq => ?_⟩, fun h => absurd rfl h⟩
            · have := HS3.out.1.size
              omega
            · have hws : w.heap.size ≤ v6.heap.size := by have := HS3.out.1.size; have := K34.out.size; have := HKX.out.size; have := HS6.out.size; omega
              rcases Z3 t ht with h | h
              · exact HS3.out.2 t h
              · exact .inr (Nat.le_trans hws h)
            · have h1 := HTW.out q hq
              have h2 := HS3.out.1.size
              have h3 := K34.out.size
              have h4 := HKX.out.size
              omega
          · have hb : (E == 0) = false := by simpa using hE0
            have HE0 : Hid (E ≠ 0) := hE0
            go_wp2
            go_ret2
            exact ⟨_, rfl, fun h => absurd h HE0.out, fun _ => ⟨rfl, T7, HX7.out.bay, HS7.out, HN7.out⟩⟩

end Go.Proofs.YtinpkfdmellleaaGreat

namespace Go.Proofs.YtinpkfdmellleaaGreat
open Go.RowKit Plain
set_option linter.unusedVariables false

/-- a board as it comes: its label has as many members as its bay. -/
structure Kok (K : KS) : Prop where
  n : (K.b.ms.length : Int) = K.l.n
  s : K.l.sts.length = K.b.ms.length
  m : K.l.mks.length = K.b.ms.length
  e0 : 0 ≤ K.l.ep
  e1 : K.l.ep < 9007199254740992
  g : K.b.g + 100 < 1000000
theorem Nl.at {w : World} {v : Value} {l : List Int} (h : Nl w v l) (hl : 0 < l.length) : ∃ g off cap, v = .slice (some ⟨g, off, none⟩) l.length cap ∧ l.length ≤ cap ∧ cap ≤ 9223372036854775807 ∧ ∀ j, j < l.length → w.cell? ⟨g, off + j, none⟩ = some (.int .i64 (l.getD j 0)) := by
  obtain ⟨a, g, off, cap, rfl, A⟩ := h
  rw [A.ha hl]
  exact ⟨g, off, cap, rfl, A.le, A.mx, A.c⟩

set_option maxRecDepth 100000 in
set_option maxHeartbeats 4000000 in
theorem bfail_l {w0 w : World} {x b : Nat} {T : List Nat} {K : KS} {sv mv : Value} (h : KX w0 w x b T K sv mv) (hK : Kp w0 w) (ok : Kok K) (m : Int) : Calls Tryz.prog 33 #[.pointer (some ⟨x, 0, none⟩), .int .i64 m] w fun e w' => e = .returned (.int .i64 (bfE K m)) ∧ Kl w0 w w' x b T (bfK K m) (lbs sv mv) := by
  have hFi := bfind_any h m
  have hgd := h.bay.gd
  obtain ⟨B, L⟩ := K
  obtain ⟨hn, hs1, hs2, he0, he1, hg⟩ := ok
  dsimp only at hn hs1 hs2 he0 he1 hg hgd
  have hb2 := hgd.n2
  have HH := hid h
  have HK := hid hK
  obtain ⟨E, eE⟩ : ∃ E, E = bfE ⟨B, L⟩ m := ⟨_, rfl⟩
  obtain ⟨KK, eK⟩ : ∃ E, E = bfK ⟨B, L⟩ m := ⟨_, rfl⟩
  rw [← eE, ← eK]
  have HEE : Hid (E = bfE ⟨B, L⟩ m) := eE
  have HEK : Hid (KK = bfK ⟨B, L⟩ m) := eK
  clear eE eK h hK hgd
  by_cases hin : inK ⟨B, L⟩ m
  case neg =>
    rw [if_neg hin] at hFi
    have hE : E = 3 := by rw [HEE.out]; unfold bfE; rw [if_neg hin]
    have hKK : Hid (KK = ⟨B, L⟩) := by show KK = _; rw [HEK.out]; unfold bfK; rw [if_neg hin]
    subst hE
    go_enter Tryz.func33, Tryz.ntmps33
    go_wp2_with fail
    refine hFi.mono ?_; rintro e v1 ⟨rfl, hv⟩
    subst v1
    clear hFi
    go_wp2
    go_ret
    exact ⟨rfl, by rw [hKK.out]; exact Kl.refl HH.out⟩
  case pos =>
    rw [if_pos hin] at hFi
    have hm2 : 0 ≤ m ∧ m < L.n := hin
    obtain ⟨mm, rfl⟩ : ∃ mm : Nat, m = mm := ⟨m.toNat, by omega⟩
    have hmB : mm < B.ms.length := by omega
    have hfd : fdE B (mm : Int) = 0 := fd_in (by omega) (by omega)
    obtain ⟨g1, o1, c1, rfl, r1, r2, r3⟩ := HH.out.n1.at (by dsimp only; omega)
    obtain ⟨g2, o2, c2, rfl, r4, r5, r6⟩ := HH.out.n2.at (by dsimp only; omega)
    have st := r3 mm (by dsimp only; omega)
    have mt := r6 mm (by dsimp only; omega)
    dsimp only at st mt r1 r4
    have x0 := HH.out.c0
    have x1 := HH.out.c1
    have x2 := HH.out.c2
    have x4 := HH.out.c4
    have x5 := HH.out.c5
    dsimp only at x0 x1 x2 x4 x5
    have HX := hid HH.out
    obtain ⟨S1, hS1⟩ : ∃ S, S = L.sts.getD mm 0 := ⟨_, rfl⟩
    obtain ⟨S2, hS2⟩ : ∃ S, S = L.mks.getD mm 0 := ⟨_, rfl⟩
    rw [← hS1] at st
    rw [← hS2] at mt
    have HS1 := hid hS1
    have HS2 := hid hS2
    obtain ⟨nS, hnS⟩ : ∃ k, k = L.sts.length := ⟨_, rfl⟩
    obtain ⟨nM, hnM⟩ : ∃ k, k = L.mks.length := ⟨_, rfl⟩
    rw [← hnS] at r1 x4 HX hs1
    rw [← hnM] at r4 x5 HX hs2
    have HnS := hid hnS
    have HnM := hid hnM
    have hxm : mm < nS := by omega
    have hxn : mm < nM := by omega
    clear hS1 hS2 r3 r6 HH hnS hnM
    obtain ⟨m_, X, F, hT, hbx⟩ := HX.out.bay
    subst hT
    have hMe := fun w' (k : Kp w w') => bx_member (hbx.kp k) hfd
    have hM1 := bx_member hbx hfd
    have HBX := hid hbx
    have HXw := hid HX.out
    have HSw : Hid (Sp (b :: m_ :: F) w w) := Sp.refl _ _
    have hl1 : L.sts.length ≤ 32 ∧ mm < L.sts.length ∧ L.mks.length ≤ 32 ∧ mm < L.mks.length := by have := HnS.out; have := HnM.out; omega
    obtain ⟨hl1, hl2, hl3, hl4⟩ := hl1
    clear hMe hbx
    go_enter Tryz.func33, Tryz.ntmps33
    go_wp2_with fail
    refine hFi.mono ?_; rintro e v1 ⟨rfl, hv⟩
    subst v1
    clear hFi
    go_wp2_with fail
    refine hM1.mono ?_; rintro e v1 ⟨rfl, hv⟩
    subst v1
    clear hM1
    by_cases h1 : S1 = 1
    · have hD := bx_dead HBX.out hfd
      obtain ⟨dd, hdd⟩ : ∃ d, d = (bm B (mm : Int)).dead := ⟨_, rfl⟩
      rw [← hdd] at hD
      have Hdd := hid hdd
      have hkn : Hid (knK ⟨B, L⟩ (mm : Int) = dd) := by
        show knK _ _ = dd
        unfold knK
        dsimp only
        rw [Int.toNat_natCast, ← HS1.out, h1, decide_eq_true rfl, Bool.true_and]
        exact Hdd.out.symm
      subst h1
      clear hdd
      go_wp2_with fail
      refine hD.mono ?_; rintro e v2 ⟨rfl, hB2, s2⟩
      have BXv2 := hid hB2
      have Sv2 : Hid (Sp (b :: m_ :: F) w v2) := s2.mono (fun t ht => by simp [ht])
      have Xv2 : Hid (KX w0 v2 x b (b :: m_ :: F) ⟨B, L⟩ (.slice (some ⟨g1, o1, none⟩) nS c1) (.slice (some ⟨g2, o2, none⟩) nM c2)) := HXw.out.bayX ⟨m_, X, F, rfl, hB2⟩ Sv2.out (Nw.refl _ _)
      have Kv2 : Hid (Kp w0 v2) := Sp.kp HK.out Sv2.out (OL.bw.new HXw.out.bay)
      clear hD hB2 s2
      cases dd with
      | true =>
        have hE : E = 0 := by rw [HEE.out]; unfold bfE; rw [if_pos hin, if_pos hkn.out]
        have hKK : Hid (KK = ⟨B, L⟩) := by show KK = _; rw [HEK.out]; unfold bfK; rw [if_pos hin, if_pos hkn.out]
        subst hE
        go_wp2
        go_ret
        exact ⟨rfl, by rw [hKK.out]; exact ⟨_, _, _, Xv2.out, Sv2.out.mono (fun t ht => List.mem_cons_of_mem _ ht), Nw.refl _ _, Lb.self _ _ _⟩⟩
      | false =>
        have hEs : E = puE' (faK ⟨B, L⟩ mm) (chL L mm 1 0) := by rw [HEE.out]; unfold bfE; rw [if_pos hin, if_neg (by rw [hkn.out]; simp), Int.toNat_natCast]
        have hKs : KK = puK (faK ⟨B, L⟩ mm) (chL L mm 1 0) := by rw [HEK.out]; unfold bfK; rw [if_pos hin, if_neg (by rw [hkn.out]; simp), Int.toNat_natCast]
        have hFa := bx_fail BXv2.out Kv2.out hfd
        go_wp2_with fail
        refine hFa.mono ?_; rintro e vf ⟨rfl, nf⟩
        obtain ⟨Tv, of, sf, nf2⟩ := nf
        have Xvf : Hid (KX w0 vf x b Tv (faK ⟨B, L⟩ mm) (.slice (some ⟨g1, o1, none⟩) nS c1) (.slice (some ⟨g2, o2, none⟩) nM c2)) := Xv2.out.bayX of sf nf2
        have Kvf : Hid (Kp w0 vf) := Sp.kp Kv2.out sf (OL.bw.new Xv2.out.bay)
        have Svf : Hid (Sp (x :: b :: m_ :: F) w vf) := (Sv2.out.trans sf).mono (fun t ht => List.mem_cons_of_mem _ ht)
        have Nvf : Hid (Nw w (b :: m_ :: F) Tv) := fun t ht => (nf2 t ht).imp id (fun h => Nat.le_trans Sv2.out.size h)
        clear hFa of sf nf2
        have HEs := hid hEs
        have HKs := hid hKs
        clear hEs hKs
        have hWi := with_any Xvf.out mm 1 0 (by show L.sts.length ≤ 1000; omega) (by show L.mks.length ≤ 1000; omega) (by show mm < L.sts.length; omega) (by show mm < L.mks.length; omega)
        unfold lV at hWi
        dsimp only [faK, rpK] at hWi
        go_wp2_with fail
        refine hWi.mono ?_; rintro e vw ⟨y1, y2, rfl, tw, kw⟩
        obtain ⟨f1, f2, f3, rfl⟩ := tw.1.shape
        obtain ⟨f4, f5, f6, rfl⟩ := tw.2.1.shape
        have Xq := Xvf.out.kp kw
        have HKw : Hid (Kp w0 vw) := Kvf.out.trans kw
        have hTl := OL.bw.low Xvf.out.bay
        have hxl := Xvf.out.hx
        have hPb := publish_l Xq HKw.out (chL L mm 1 0) (.slice f1 f2 f3) (.slice f4 f5 f6) (by unfold faK put; simp; exact hn) tw.n1 tw.n2 (fun q hq => by
            obtain ⟨h1, h2⟩ := tw.lo1 q hq
            refine ⟨fun hm => ?_, h2⟩
            rcases List.mem_cons.1 hm with e | e
            · omega
            · have := hTl q e; omega) (fun q hq => by
            obtain ⟨h1, h2⟩ := tw.lo2 q hq
            refine ⟨fun hm => ?_, h2⟩
            rcases List.mem_cons.1 hm with e | e
            · omega
            · have := hTl q e; omega) he0 he1 (by unfold faK put; exact hg)
        rw [show puE' (faK ⟨B, L⟩ mm) (chL L mm 1 0) = E from HEs.out.symm, show puK (faK ⟨B, L⟩ mm) (chL L mm 1 0) = KK from HKs.out.symm] at hPb
        unfold lV at hPb
        dsimp only [chL] at hPb
        have Skw : Hid (Sp (x :: Tv) vf vw) := kw.sp _
        have hsw : Hid (vf.heap.size ≤ vw.heap.size) := kw.size
        have HLo : Hid (∀ q, q ∈ lbs (.slice f1 f2 f3) (.slice f4 f5 f6) → vf.heap.size ≤ q) := fun q hq => by
          unfold lbs at hq
          rcases List.mem_append.1 hq with h | h
          · exact (tw.lo1 q (by simpa using h)).1
          · exact (tw.lo2 q (by simpa using h)).1
        clear hWi tw Xq kw hTl
        go_wp2_with fail
        refine hPb.mono ?_; rintro e vz ⟨rfl, ⟨Tz, s7, m7, X7, q7, n7, l7⟩, _⟩
        have HZ : Hid (Kl w0 w vz x b (b :: m_ :: F) KK (lbs (.slice (some ⟨g1, o1, none⟩) nS c1) (.slice (some ⟨g2, o2, none⟩) nM c2))) := ⟨Tz, s7, m7, X7, (Svf.out.then (Skw.out.trans q7) (nw_cons Nvf.out)), fun t ht => by
          rcases n7 t ht with h | h
          · exact Nvf.out t h
          · exact .inr (by have := Svf.out.size; have := hsw.out; omega), l7.mono (by have := Svf.out.size; have := hsw.out; omega) (fun q h => by
          rcases List.mem_append.1 h with h | h
          · exact .inl h
          · exact .inr (by have := HLo.out q h; have := Svf.out.size; omega))⟩
        clear hPb X7 q7 n7
        go_wp2
        go_ret
        exact ⟨rfl, HZ.out⟩
    · have hkn : Hid (knK ⟨B, L⟩ (mm : Int) = false) := by
        show knK _ _ = false
        unfold knK
        dsimp only
        rw [Int.toNat_natCast, ← HS1.out, decide_eq_false h1, Bool.false_and]
      have hEs : E = puE' (faK ⟨B, L⟩ mm) (chL L mm 1 0) := by rw [HEE.out]; unfold bfE; rw [if_pos hin, if_neg (by rw [hkn.out]; simp), Int.toNat_natCast]
      have hKs : KK = puK (faK ⟨B, L⟩ mm) (chL L mm 1 0) := by rw [HEK.out]; unfold bfK; rw [if_pos hin, if_neg (by rw [hkn.out]; simp), Int.toNat_natCast]
      have b1 : (S1 == 1) = false := by simpa using h1
      have Xw := HXw
      have Kw := HK
      have Sw := HSw
      have BXw := HBX
      have hFa := bx_fail BXw.out Kw.out hfd
      go_wp2_with fail
      refine hFa.mono ?_; rintro e vf ⟨rfl, nf⟩
      obtain ⟨Tv, of, sf, nf2⟩ := nf
      have Xvf : Hid (KX w0 vf x b Tv (faK ⟨B, L⟩ mm) (.slice (some ⟨g1, o1, none⟩) nS c1) (.slice (some ⟨g2, o2, none⟩) nM c2)) := Xw.out.bayX of sf nf2
      have Kvf : Hid (Kp w0 vf) := Sp.kp Kw.out sf (OL.bw.new Xw.out.bay)
      have Svf : Hid (Sp (x :: b :: m_ :: F) w vf) := (Sw.out.trans sf).mono (fun t ht => List.mem_cons_of_mem _ ht)
      have Nvf : Hid (Nw w (b :: m_ :: F) Tv) := fun t ht => (nf2 t ht).imp id (fun h => Nat.le_trans Sw.out.size h)
      clear hFa of sf nf2
      have HEs := hid hEs
      have HKs := hid hKs
      clear hEs hKs
      have hWi := with_any Xvf.out mm 1 0 (by show L.sts.length ≤ 1000; omega) (by show L.mks.length ≤ 1000; omega) (by show mm < L.sts.length; omega) (by show mm < L.mks.length; omega)
      unfold lV at hWi
      dsimp only [faK, rpK] at hWi
      go_wp2_with fail
      refine hWi.mono ?_; rintro e vw ⟨y1, y2, rfl, tw, kw⟩
      obtain ⟨f1, f2, f3, rfl⟩ := tw.1.shape
      obtain ⟨f4, f5, f6, rfl⟩ := tw.2.1.shape
      have Xq := Xvf.out.kp kw
      have HKw : Hid (Kp w0 vw) := Kvf.out.trans kw
      have hTl := OL.bw.low Xvf.out.bay
      have hxl := Xvf.out.hx
      have hPb := publish_l Xq HKw.out (chL L mm 1 0) (.slice f1 f2 f3) (.slice f4 f5 f6) (by unfold faK put; simp; exact hn) tw.n1 tw.n2 (fun q hq => by
          obtain ⟨h1, h2⟩ := tw.lo1 q hq
          refine ⟨fun hm => ?_, h2⟩
          rcases List.mem_cons.1 hm with e | e
          · omega
          · have := hTl q e; omega) (fun q hq => by
          obtain ⟨h1, h2⟩ := tw.lo2 q hq
          refine ⟨fun hm => ?_, h2⟩
          rcases List.mem_cons.1 hm with e | e
          · omega
          · have := hTl q e; omega) he0 he1 (by unfold faK put; exact hg)
      rw [show puE' (faK ⟨B, L⟩ mm) (chL L mm 1 0) = E from HEs.out.symm, show puK (faK ⟨B, L⟩ mm) (chL L mm 1 0) = KK from HKs.out.symm] at hPb
      unfold lV at hPb
      dsimp only [chL] at hPb
      have Skw : Hid (Sp (x :: Tv) vf vw) := kw.sp _
      have hsw : Hid (vf.heap.size ≤ vw.heap.size) := kw.size
      have HLo : Hid (∀ q, q ∈ lbs (.slice f1 f2 f3) (.slice f4 f5 f6) → vf.heap.size ≤ q) := fun q hq => by
        unfold lbs at hq
        rcases List.mem_append.1 hq with h | h
        · exact (tw.lo1 q (by simpa using h)).1
        · exact (tw.lo2 q (by simpa using h)).1
      clear hWi tw Xq kw hTl
      go_wp2_with fail
      refine hPb.mono ?_; rintro e vz ⟨rfl, ⟨Tz, s7, m7, X7, q7, n7, l7⟩, _⟩
      have HZ : Hid (Kl w0 w vz x b (b :: m_ :: F) KK (lbs (.slice (some ⟨g1, o1, none⟩) nS c1) (.slice (some ⟨g2, o2, none⟩) nM c2))) := ⟨Tz, s7, m7, X7, (Svf.out.then (Skw.out.trans q7) (nw_cons Nvf.out)), fun t ht => by
        rcases n7 t ht with h | h
        · exact Nvf.out t h
        · exact .inr (by have := Svf.out.size; have := hsw.out; omega), l7.mono (by have := Svf.out.size; have := hsw.out; omega) (fun q h => by
        rcases List.mem_append.1 h with h | h
        · exact .inl h
        · exact .inr (by have := HLo.out q h; have := Svf.out.size; omega))⟩
      clear hPb X7 q7 n7
      go_wp2
      go_ret
      exact ⟨rfl, HZ.out⟩

set_option maxRecDepth 100000 in
set_option maxHeartbeats 4000000 in
theorem breplace_l {w0 w : World} {x b : Nat} {T : List Nat} {K : KS} {sv mv : Value} (h : KX w0 w x b T K sv mv) (hK : Kp w0 w) (ok : Kok K) (m : Int) : Calls Tryz.prog 32 #[.pointer (some ⟨x, 0, none⟩), .int .i64 m] w fun e w' => e = .returned (.int .i64 (brE K m)) ∧ Kl w0 w w' x b T (brK K m) (lbs sv mv) := by
  have hFi := bfind_any h m
  have hgd := h.bay.gd
  obtain ⟨B, L⟩ := K
  obtain ⟨hn, hs1, hs2, he0, he1, hg⟩ := ok
  dsimp only at hn hs1 hs2 he0 he1 hg hgd
  have hb2 := hgd.n2
  have HH := hid h
  have HK := hid hK
  obtain ⟨E, eE⟩ : ∃ E, E = brE ⟨B, L⟩ m := ⟨_, rfl⟩
  obtain ⟨KK, eK⟩ : ∃ E, E = brK ⟨B, L⟩ m := ⟨_, rfl⟩
  rw [← eE, ← eK]
  have HEE : Hid (E = brE ⟨B, L⟩ m) := eE
  have HEK : Hid (KK = brK ⟨B, L⟩ m) := eK
  clear eE eK h hK hgd
  by_cases hin : inK ⟨B, L⟩ m
  case neg =>
    rw [if_neg hin] at hFi
    have hE : E = 3 := by rw [HEE.out]; unfold brE; rw [if_neg hin]
    have hKK : Hid (KK = ⟨B, L⟩) := by show KK = _; rw [HEK.out]; unfold brK; rw [if_neg hin]
    subst hE
    go_enter Tryz.func32, Tryz.ntmps32
    go_wp2_with fail
    refine hFi.mono ?_; rintro e v1 ⟨rfl, hv⟩
    subst v1
    clear hFi
    go_wp2
    go_ret
    exact ⟨rfl, by rw [hKK.out]; exact Kl.refl HH.out⟩
  case pos =>
    rw [if_pos hin] at hFi
    have hm2 : 0 ≤ m ∧ m < L.n := hin
    obtain ⟨mm, rfl⟩ : ∃ mm : Nat, m = mm := ⟨m.toNat, by omega⟩
    have hmB : mm < B.ms.length := by omega
    have hfd : fdE B (mm : Int) = 0 := fd_in (by omega) (by omega)
    obtain ⟨g1, o1, c1, rfl, r1, r2, r3⟩ := HH.out.n1.at (by dsimp only; omega)
    obtain ⟨g2, o2, c2, rfl, r4, r5, r6⟩ := HH.out.n2.at (by dsimp only; omega)
    have st := r3 mm (by dsimp only; omega)
    have mt := r6 mm (by dsimp only; omega)
    dsimp only at st mt r1 r4
    have x0 := HH.out.c0
    have x1 := HH.out.c1
    have x2 := HH.out.c2
    have x4 := HH.out.c4
    have x5 := HH.out.c5
    dsimp only at x0 x1 x2 x4 x5
    have HX := hid HH.out
    obtain ⟨S1, hS1⟩ : ∃ S, S = L.sts.getD mm 0 := ⟨_, rfl⟩
    obtain ⟨S2, hS2⟩ : ∃ S, S = L.mks.getD mm 0 := ⟨_, rfl⟩
    rw [← hS1] at st
    rw [← hS2] at mt
    have HS1 := hid hS1
    have HS2 := hid hS2
    obtain ⟨nS, hnS⟩ : ∃ k, k = L.sts.length := ⟨_, rfl⟩
    obtain ⟨nM, hnM⟩ : ∃ k, k = L.mks.length := ⟨_, rfl⟩
    rw [← hnS] at r1 x4 HX hs1
    rw [← hnM] at r4 x5 HX hs2
    have HnS := hid hnS
    have HnM := hid hnM
    have hxm : mm < nS := by omega
    have hxn : mm < nM := by omega
    clear hS1 hS2 r3 r6 HH hnS hnM
    obtain ⟨m_, X, F, hT, hbx⟩ := HX.out.bay
    subst hT
    have hM1 := bx_member hbx hfd
    have hFa := bx_replace hbx HK.out hfd
    have hFu := full_any HX.out (by exact he1)
    have HXw := hid HX.out
    have hl1 : L.sts.length ≤ 32 ∧ mm < L.sts.length ∧ L.mks.length ≤ 32 ∧ mm < L.mks.length := by have := HnS.out; have := HnM.out; omega
    obtain ⟨hl1, hl2, hl3, hl4⟩ := hl1
    clear hbx
    go_enter Tryz.func32, Tryz.ntmps32
    go_wp2_with fail
    refine hFi.mono ?_; rintro e v1 ⟨rfl, hv⟩
    subst v1
    clear hFi
    by_cases h1 : S1 = 1
    · have hEs : E = puE' (rpK ⟨B, L⟩ mm) (chL L mm 2 0) := by rw [HEE.out]; unfold brE; rw [if_pos hin]; dsimp only; rw [if_pos (by rw [Int.toNat_natCast, ← HS1.out]; exact h1), Int.toNat_natCast]
      have hKs : KK = puK (rpK ⟨B, L⟩ mm) (chL L mm 2 0) := by rw [HEK.out]; unfold brK; rw [if_pos hin]; dsimp only; rw [if_pos (by rw [Int.toNat_natCast, ← HS1.out]; exact h1), Int.toNat_natCast]
      subst h1
      go_wp2_with fail
      refine hFu.mono ?_; rintro e v1 ⟨rfl, hv⟩
      subst v1
      clear hFu
      go_wp2_with fail
      refine hM1.mono ?_; rintro e v1 ⟨rfl, hv⟩
      subst v1
      clear hM1
      go_wp2_with fail
      refine hFa.mono ?_; rintro e vf ⟨rfl, nf⟩
      obtain ⟨Tv, of, sf, nf2⟩ := nf
      have Xvf : Hid (KX w0 vf x b Tv (rpK ⟨B, L⟩ mm) (.slice (some ⟨g1, o1, none⟩) nS c1) (.slice (some ⟨g2, o2, none⟩) nM c2)) := HXw.out.bayX of sf nf2
      have Kvf : Hid (Kp w0 vf) := Sp.kp HK.out sf (OL.bw.new HXw.out.bay)
      have Svf : Hid (Sp (x :: b :: m_ :: F) w vf) := sf.mono (fun t ht => List.mem_cons_of_mem _ ht)
      have Nvf : Hid (Nw w (b :: m_ :: F) Tv) := nf2
      clear hFa of sf nf2
      have HEs := hid hEs
      have HKs := hid hKs
      clear hEs hKs
      have hWi := with_any Xvf.out mm 2 0 (by show L.sts.length ≤ 1000; omega) (by show L.mks.length ≤ 1000; omega) (by show mm < L.sts.length; omega) (by show mm < L.mks.length; omega)
      unfold lV at hWi
      dsimp only [faK, rpK] at hWi
      go_wp2_with fail
      refine hWi.mono ?_; rintro e vw ⟨y1, y2, rfl, tw, kw⟩
      obtain ⟨f1, f2, f3, rfl⟩ := tw.1.shape
      obtain ⟨f4, f5, f6, rfl⟩ := tw.2.1.shape
      have Xq := Xvf.out.kp kw
      have HKw : Hid (Kp w0 vw) := Kvf.out.trans kw
      have hTl := OL.bw.low Xvf.out.bay
      have hxl := Xvf.out.hx
      have hPb := publish_l Xq HKw.out (chL L mm 2 0) (.slice f1 f2 f3) (.slice f4 f5 f6) (by unfold rpK put; simp; exact hn) tw.n1 tw.n2 (fun q hq => by
          obtain ⟨h1, h2⟩ := tw.lo1 q hq
          refine ⟨fun hm => ?_, h2⟩
          rcases List.mem_cons.1 hm with e | e
          · omega
          · have := hTl q e; omega) (fun q hq => by
          obtain ⟨h1, h2⟩ := tw.lo2 q hq
          refine ⟨fun hm => ?_, h2⟩
          rcases List.mem_cons.1 hm with e | e
          · omega
          · have := hTl q e; omega) he0 he1 (by unfold rpK put; exact hg)
      rw [show puE' (rpK ⟨B, L⟩ mm) (chL L mm 2 0) = E from HEs.out.symm, show puK (rpK ⟨B, L⟩ mm) (chL L mm 2 0) = KK from HKs.out.symm] at hPb
      unfold lV at hPb
      dsimp only [chL] at hPb
      have Skw : Hid (Sp (x :: Tv) vf vw) := kw.sp _
      have hsw : Hid (vf.heap.size ≤ vw.heap.size) := kw.size
      have HLo : Hid (∀ q, q ∈ lbs (.slice f1 f2 f3) (.slice f4 f5 f6) → vf.heap.size ≤ q) := fun q hq => by
        unfold lbs at hq
        rcases List.mem_append.1 hq with h | h
        · exact (tw.lo1 q (by simpa using h)).1
        · exact (tw.lo2 q (by simpa using h)).1
      clear hWi tw Xq kw hTl
      go_wp2_with fail
      refine hPb.mono ?_; rintro e vz ⟨rfl, ⟨Tz, s7, m7, X7, q7, n7, l7⟩, _⟩
      have HZ : Hid (Kl w0 w vz x b (b :: m_ :: F) KK (lbs (.slice (some ⟨g1, o1, none⟩) nS c1) (.slice (some ⟨g2, o2, none⟩) nM c2))) := ⟨Tz, s7, m7, X7, (Svf.out.then (Skw.out.trans q7) (nw_cons Nvf.out)), fun t ht => by
        rcases n7 t ht with h | h
        · exact Nvf.out t h
        · exact .inr (by have := Svf.out.size; have := hsw.out; omega), l7.mono (by have := Svf.out.size; have := hsw.out; omega) (fun q h => by
        rcases List.mem_append.1 h with h | h
        · exact .inl h
        · exact .inr (by have := HLo.out q h; have := Svf.out.size; omega))⟩
      clear hPb X7 q7 n7
      go_wp2
      go_ret
      exact ⟨rfl, HZ.out⟩
    · have hE : E = 12 := by rw [HEE.out]; unfold brE; rw [if_pos hin]; dsimp only; rw [if_neg (by rw [Int.toNat_natCast, ← HS1.out]; exact h1)]
      have hKK : Hid (KK = ⟨B, L⟩) := by show KK = _; rw [HEK.out]; unfold brK; rw [if_pos hin]; dsimp only; rw [if_neg (by rw [Int.toNat_natCast, ← HS1.out]; exact h1)]
      have b1 : (S1 == 1) = false := by simpa using h1
      subst hE
      go_wp2
      go_ret
      exact ⟨rfl, by rw [hKK.out]; have h9 := Kl.refl HXw.out; exact h9⟩

set_option maxRecDepth 100000 in
set_option maxHeartbeats 4000000 in
theorem advance_l {w0 w : World} {x b : Nat} {T : List Nat} {K : KS} {sv mv : Value} (h : KX w0 w x b T K sv mv) (hK : Kp w0 w) (ok : Kok K) (m t : Int) : Calls Tryz.prog 30 #[.pointer (some ⟨x, 0, none⟩), .int .i64 m, .int .i64 t] w fun e w' => e = .returned (.int .i64 (baE K m t)) ∧ Kl w0 w w' x b T (baK K m t) (lbs sv mv) := by
  have hFi := bfind_any h m
  have hgd := h.bay.gd
  obtain ⟨B, L⟩ := K
  obtain ⟨hn, hs1, hs2, he0, he1, hg⟩ := ok
  dsimp only at hn hs1 hs2 he0 he1 hg hgd
  have hb2 := hgd.n2
  have HH := hid h
  have HK := hid hK
  obtain ⟨E, eE⟩ : ∃ E, E = baE ⟨B, L⟩ m t := ⟨_, rfl⟩
  obtain ⟨KK, eK⟩ : ∃ E, E = baK ⟨B, L⟩ m t := ⟨_, rfl⟩
  rw [← eE, ← eK]
  have HEE : Hid (E = baE ⟨B, L⟩ m t) := eE
  have HEK : Hid (KK = baK ⟨B, L⟩ m t) := eK
  clear eE eK h hK hgd
  by_cases hin : inK ⟨B, L⟩ m
  case neg =>
    rw [if_neg hin] at hFi
    have hE : E = 3 := by rw [HEE.out]; unfold baE baX; rw [if_neg hin, if_neg (by omega)]
    have hKK : Hid (KK = ⟨B, L⟩) := by show KK = _; rw [HEK.out]; unfold baK baX; rw [if_neg hin, if_neg (by omega)]
    subst hE
    go_enter Tryz.func30, Tryz.ntmps30
    go_wp2_with fail
    refine hFi.mono ?_; rintro e v1 ⟨rfl, hv⟩
    subst v1
    clear hFi
    go_wp2
    go_ret
    exact ⟨rfl, by rw [hKK.out]; exact Kl.refl HH.out⟩
  case pos =>
    rw [if_pos hin] at hFi
    have hm2 : 0 ≤ m ∧ m < L.n := hin
    obtain ⟨mm, rfl⟩ : ∃ mm : Nat, m = mm := ⟨m.toNat, by omega⟩
    have hmB : mm < B.ms.length := by omega
    have hfd : fdE B (mm : Int) = 0 := fd_in (by omega) (by omega)
    obtain ⟨g1, o1, c1, rfl, r1, r2, r3⟩ := HH.out.n1.at (by dsimp only; omega)
    obtain ⟨g2, o2, c2, rfl, r4, r5, r6⟩ := HH.out.n2.at (by dsimp only; omega)
    have st := r3 mm (by dsimp only; omega)
    have mt := r6 mm (by dsimp only; omega)
    dsimp only at st mt r1 r4
    have x0 := HH.out.c0
    have x1 := HH.out.c1
    have x2 := HH.out.c2
    have x4 := HH.out.c4
    have x5 := HH.out.c5
    dsimp only at x0 x1 x2 x4 x5
    have HX := hid HH.out
    obtain ⟨S1, hS1⟩ : ∃ S, S = L.sts.getD mm 0 := ⟨_, rfl⟩
    obtain ⟨S2, hS2⟩ : ∃ S, S = L.mks.getD mm 0 := ⟨_, rfl⟩
    rw [← hS1] at st
    rw [← hS2] at mt
    have HS1 := hid hS1
    have HS2 := hid hS2
    obtain ⟨nS, hnS⟩ : ∃ k, k = L.sts.length := ⟨_, rfl⟩
    obtain ⟨nM, hnM⟩ : ∃ k, k = L.mks.length := ⟨_, rfl⟩
    rw [← hnS] at r1 x4 HX hs1
    rw [← hnM] at r4 x5 HX hs2
    have HnS := hid hnS
    have HnM := hid hnM
    have hxm : mm < nS := by omega
    have hxn : mm < nM := by omega
    clear hS1 hS2 r3 r6 HH hnS hnM
    have Xw := hid HX.out
    have Kw := HK
    have Sw : Hid (Sp (x :: T) w w) := Sp.refl _ _
    have Nww : Hid (Nw w T T) := Nw.refl _ _
    have hl1 : L.sts.length ≤ 32 ∧ mm < L.sts.length ∧ L.mks.length ≤ 32 ∧ mm < L.mks.length := by have := HnS.out; have := HnM.out; omega
    obtain ⟨hl1, hl2, hl3, hl4⟩ := hl1
    go_enter Tryz.func30, Tryz.ntmps30
    go_wp2_with fail
    refine hFi.mono ?_; rintro e v1 ⟨rfl, hv⟩
    subst v1
    clear hFi
    by_cases h1 : S2 ≤ t ∧ t ≤ L.s
    · obtain ⟨h1a, h1b⟩ := h1
      have n1 : ¬ t < S2 := by omega
      have n2 : ¬ L.s < t := by omega
      have hxa : baX ⟨B, L⟩ (mm : Int) t = if S1 = 2 then 0 else 12 := by unfold baX; rw [if_pos hin]; dsimp only; rw [Int.toNat_natCast, if_pos (by rw [← HS2.out]; exact ⟨h1a, h1b⟩), ← HS1.out]
      by_cases h2 : S1 = 2
      · have hX0 : baX ⟨B, L⟩ (mm : Int) t = 0 := by rw [hxa, if_pos h2]
        clear hxa
        subst h2
        by_cases h3 : t = L.s
        · have hMM : baM ⟨B, L⟩ (mm : Int) t = chL L mm 0 0 := by unfold baM; dsimp only; rw [if_pos h3, Int.toNat_natCast]
          have b3 : (t == L.s) = true := by simpa using h3
          have hEs : E = puE' ⟨B, L⟩ (chL L mm 0 0) := by rw [HEE.out]; unfold baE; rw [if_pos hX0, hMM]
          have hKs : KK = puK ⟨B, L⟩ (chL L mm 0 0) := by rw [HEK.out]; unfold baK; rw [if_pos hX0, hMM]
          clear hMM hX0
          have HEs := hid hEs
          have HKs := hid hKs
          clear hEs hKs
          have hWi := with_any Xw.out mm 0 0 (by show L.sts.length ≤ 1000; omega) (by show L.mks.length ≤ 1000; omega) (by show mm < L.sts.length; omega) (by show mm < L.mks.length; omega)
          unfold lV at hWi
          dsimp only [faK, rpK] at hWi
          go_wp2_with fail
          refine hWi.mono ?_; rintro e vw ⟨y1, y2, rfl, tw, kw⟩
          obtain ⟨f1, f2, f3, rfl⟩ := tw.1.shape
          obtain ⟨f4, f5, f6, rfl⟩ := tw.2.1.shape
          have Xq := Xw.out.kp kw
          have HKw : Hid (Kp w0 vw) := Kw.out.trans kw
          have hTl := OL.bw.low Xw.out.bay
          have hxl := Xw.out.hx
          have hPb := publish_l Xq HKw.out (chL L mm 0 0) (.slice f1 f2 f3) (.slice f4 f5 f6) (by exact hn) tw.n1 tw.n2 (fun q hq => by
              obtain ⟨h1, h2⟩ := tw.lo1 q hq
              refine ⟨fun hm => ?_, h2⟩
              rcases List.mem_cons.1 hm with e | e
              · omega
              · have := hTl q e; omega) (fun q hq => by
              obtain ⟨h1, h2⟩ := tw.lo2 q hq
              refine ⟨fun hm => ?_, h2⟩
              rcases List.mem_cons.1 hm with e | e
              · omega
              · have := hTl q e; omega) he0 he1 (by exact hg)
          rw [show puE' ⟨B, L⟩ (chL L mm 0 0) = E from HEs.out.symm, show puK ⟨B, L⟩ (chL L mm 0 0) = KK from HKs.out.symm] at hPb
          unfold lV at hPb
          dsimp only [chL] at hPb
          have Skw : Hid (Sp (x :: T) w vw) := kw.sp _
          have hsw : Hid (w.heap.size ≤ vw.heap.size) := kw.size
          have HLo : Hid (∀ q, q ∈ lbs (.slice f1 f2 f3) (.slice f4 f5 f6) → w.heap.size ≤ q) := fun q hq => by
            unfold lbs at hq
            rcases List.mem_append.1 hq with h | h
            · exact (tw.lo1 q (by simpa using h)).1
            · exact (tw.lo2 q (by simpa using h)).1
          clear hWi tw Xq kw hTl
          go_wp2_with fail
          refine hPb.mono ?_; rintro e vz ⟨rfl, ⟨Tz, s7, m7, X7, q7, n7, l7⟩, _⟩
          have HZ : Hid (Kl w0 w vz x b T KK (lbs (.slice (some ⟨g1, o1, none⟩) nS c1) (.slice (some ⟨g2, o2, none⟩) nM c2))) := ⟨Tz, s7, m7, X7, (Sw.out.then (Skw.out.trans q7) (nw_cons Nww.out)), fun t ht => by
            rcases n7 t ht with h | h
            · exact Nww.out t h
            · exact .inr (by have := Sw.out.size; have := hsw.out; omega), l7.mono (by have := Sw.out.size; have := hsw.out; omega) (fun q h => by
            rcases List.mem_append.1 h with h | h
            · exact .inl h
            · exact .inr (by have := HLo.out q h; have := Sw.out.size; omega))⟩
          clear hPb X7 q7 n7
          go_wp2
          go_ret
          exact ⟨rfl, HZ.out⟩
        · have hMM : baM ⟨B, L⟩ (mm : Int) t = chL L mm 2 t := by unfold baM; dsimp only; rw [if_neg h3, Int.toNat_natCast]
          have b3 : (t == L.s) = false := by simpa using h3
          have hEs : E = puE' ⟨B, L⟩ (chL L mm 2 t) := by rw [HEE.out]; unfold baE; rw [if_pos hX0, hMM]
          have hKs : KK = puK ⟨B, L⟩ (chL L mm 2 t) := by rw [HEK.out]; unfold baK; rw [if_pos hX0, hMM]
          clear hMM hX0
          have HEs := hid hEs
          have HKs := hid hKs
          clear hEs hKs
          have hWi := with_any Xw.out mm 2 t (by show L.sts.length ≤ 1000; omega) (by show L.mks.length ≤ 1000; omega) (by show mm < L.sts.length; omega) (by show mm < L.mks.length; omega)
          unfold lV at hWi
          dsimp only [faK, rpK] at hWi
          go_wp2_with fail
          refine hWi.mono ?_; rintro e vw ⟨y1, y2, rfl, tw, kw⟩
          obtain ⟨f1, f2, f3, rfl⟩ := tw.1.shape
          obtain ⟨f4, f5, f6, rfl⟩ := tw.2.1.shape
          have Xq := Xw.out.kp kw
          have HKw : Hid (Kp w0 vw) := Kw.out.trans kw
          have hTl := OL.bw.low Xw.out.bay
          have hxl := Xw.out.hx
          have hPb := publish_l Xq HKw.out (chL L mm 2 t) (.slice f1 f2 f3) (.slice f4 f5 f6) (by exact hn) tw.n1 tw.n2 (fun q hq => by
              obtain ⟨h1, h2⟩ := tw.lo1 q hq
              refine ⟨fun hm => ?_, h2⟩
              rcases List.mem_cons.1 hm with e | e
              · omega
              · have := hTl q e; omega) (fun q hq => by
              obtain ⟨h1, h2⟩ := tw.lo2 q hq
              refine ⟨fun hm => ?_, h2⟩
              rcases List.mem_cons.1 hm with e | e
              · omega
              · have := hTl q e; omega) he0 he1 (by exact hg)
          rw [show puE' ⟨B, L⟩ (chL L mm 2 t) = E from HEs.out.symm, show puK ⟨B, L⟩ (chL L mm 2 t) = KK from HKs.out.symm] at hPb
          unfold lV at hPb
          dsimp only [chL] at hPb
          have Skw : Hid (Sp (x :: T) w vw) := kw.sp _
          have hsw : Hid (w.heap.size ≤ vw.heap.size) := kw.size
          have HLo : Hid (∀ q, q ∈ lbs (.slice f1 f2 f3) (.slice f4 f5 f6) → w.heap.size ≤ q) := fun q hq => by
            unfold lbs at hq
            rcases List.mem_append.1 hq with h | h
            · exact (tw.lo1 q (by simpa using h)).1
            · exact (tw.lo2 q (by simpa using h)).1
          clear hWi tw Xq kw hTl
          go_wp2_with fail
          refine hPb.mono ?_; rintro e vz ⟨rfl, ⟨Tz, s7, m7, X7, q7, n7, l7⟩, _⟩
          have HZ : Hid (Kl w0 w vz x b T KK (lbs (.slice (some ⟨g1, o1, none⟩) nS c1) (.slice (some ⟨g2, o2, none⟩) nM c2))) := ⟨Tz, s7, m7, X7, (Sw.out.then (Skw.out.trans q7) (nw_cons Nww.out)), fun t ht => by
            rcases n7 t ht with h | h
            · exact Nww.out t h
            · exact .inr (by have := Sw.out.size; have := hsw.out; omega), l7.mono (by have := Sw.out.size; have := hsw.out; omega) (fun q h => by
            rcases List.mem_append.1 h with h | h
            · exact .inl h
            · exact .inr (by have := HLo.out q h; have := Sw.out.size; omega))⟩
          clear hPb X7 q7 n7
          go_wp2
          go_ret
          exact ⟨rfl, HZ.out⟩
      · have hX0 : baX ⟨B, L⟩ (mm : Int) t = 12 := by rw [hxa, if_neg h2]
        have hE : E = 12 := by rw [HEE.out]; unfold baE; rw [if_neg (by rw [hX0]; omega), hX0]
        have hKK : Hid (KK = ⟨B, L⟩) := by show KK = _; rw [HEK.out]; unfold baK; rw [if_neg (by rw [hX0]; omega)]
        have b2 : (S1 == 2) = false := by simpa using h2
        clear hxa hX0
        subst hE
        go_wp2
        go_ret
        exact ⟨rfl, by rw [hKK.out]; have h9 := Kl.refl Xw.out; exact h9⟩
    · have hX0 : baX ⟨B, L⟩ (mm : Int) t = 3 := by unfold baX; rw [if_pos hin]; dsimp only; rw [Int.toNat_natCast, if_neg (by rw [← HS2.out]; exact h1)]
      have hE : E = 3 := by rw [HEE.out]; unfold baE; rw [if_neg (by rw [hX0]; omega), hX0]
      have hKK : Hid (KK = ⟨B, L⟩) := by show KK = _; rw [HEK.out]; unfold baK; rw [if_neg (by rw [hX0]; omega)]
      subst hE
      clear hX0
      by_cases h2 : t < S2
      · go_wp2
        go_ret
        exact ⟨rfl, by rw [hKK.out]; have h9 := Kl.refl Xw.out; exact h9⟩
      · have h3 : L.s < t := by omega
        go_wp2
        go_ret
        exact ⟨rfl, by rw [hKK.out]; have h9 := Kl.refl Xw.out; exact h9⟩


theorem bfail_any {w0 w : World} {x b : Nat} {T : List Nat} {K : KS} {sv mv : Value} (h : KX w0 w x b T K sv mv) (hK : Kp w0 w) (ok : Kok K) (m : Int) : Calls Tryz.prog 33 #[.pointer (some ⟨x, 0, none⟩), .int .i64 m] w fun e w' => e = .returned (.int .i64 (bfE K m)) ∧ Kz w0 w w' x b T (bfK K m) :=
  (bfail_l h hK ok m).mono fun e w' ⟨h1, h2⟩ => ⟨h1, h2.kz⟩
theorem breplace_any {w0 w : World} {x b : Nat} {T : List Nat} {K : KS} {sv mv : Value} (h : KX w0 w x b T K sv mv) (hK : Kp w0 w) (ok : Kok K) (m : Int) : Calls Tryz.prog 32 #[.pointer (some ⟨x, 0, none⟩), .int .i64 m] w fun e w' => e = .returned (.int .i64 (brE K m)) ∧ Kz w0 w w' x b T (brK K m) :=
  (breplace_l h hK ok m).mono fun e w' ⟨h1, h2⟩ => ⟨h1, h2.kz⟩
theorem advance_any {w0 w : World} {x b : Nat} {T : List Nat} {K : KS} {sv mv : Value} (h : KX w0 w x b T K sv mv) (hK : Kp w0 w) (ok : Kok K) (m t : Int) : Calls Tryz.prog 30 #[.pointer (some ⟨x, 0, none⟩), .int .i64 m, .int .i64 t] w fun e w' => e = .returned (.int .i64 (baE K m t)) ∧ Kz w0 w w' x b T (baK K m t) :=
  (advance_l h hK ok m t).mono fun e w' ⟨h1, h2⟩ => ⟨h1, h2.kz⟩

end Go.Proofs.YtinpkfdmellleaaGreat

namespace Go.Proofs.YtinpkfdmellleaaGreat
open Go.RowKit Plain
set_option linter.unusedVariables false

theorem nx_skip {K : KS} {k : Nat} (h : ¬ (K.l.sts.getD k 0 = 2 ∧ ddB K.b k = false)) : nxF K (k + 1) = nxF K k := by
  rw [nxF]; rw [if_neg h]
theorem nx_first {K : KS} {k : Nat} (h : K.l.sts.getD k 0 = 2 ∧ ddB K.b k = false) (hb : nxB K k = false) : nxB K (k + 1) = true ∧ nxM K (k + 1) = (k : Int) ∧ nxT K (k + 1) = K.l.mks.getD k 0 := by
  unfold nxB at hb
  have e : nxF K k = none := by cases hh : nxF K k with
    | none => rfl
    | some j => rw [hh] at hb; cases hb
  have e2 : nxF K (k + 1) = some k := by rw [nxF]; rw [if_pos h, e]
  unfold nxB nxM nxT
  rw [e2]
  exact ⟨rfl, rfl, rfl⟩
theorem nx_less {K : KS} {k : Nat} (h : K.l.sts.getD k 0 = 2 ∧ ddB K.b k = false) (hb : nxB K k = true) (hl : K.l.mks.getD k 0 < nxT K k) : nxB K (k + 1) = true ∧ nxM K (k + 1) = (k : Int) ∧ nxT K (k + 1) = K.l.mks.getD k 0 := by
  cases hh : nxF K k with
  | none => unfold nxB at hb; rw [hh] at hb; cases hb
  | some j =>
    have e0 : nxT K k = K.l.mks.getD j 0 := by unfold nxT; rw [hh]
    have e2 : nxF K (k + 1) = some k := by
      rw [nxF]; rw [if_pos h, hh]
      show (if K.l.mks.getD k 0 < K.l.mks.getD j 0 then some k else some j) = some k
      rw [if_pos (by rw [← e0]; exact hl)]
    unfold nxB nxM nxT
    rw [e2]
    exact ⟨rfl, rfl, rfl⟩
theorem nx_more {K : KS} {k : Nat} (h : K.l.sts.getD k 0 = 2 ∧ ddB K.b k = false) (hb : nxB K k = true) (hl : ¬ K.l.mks.getD k 0 < nxT K k) : nxF K (k + 1) = nxF K k := by
  cases hh : nxF K k with
  | none => unfold nxB at hb; rw [hh] at hb; cases hb
  | some j =>
    have e0 : nxT K k = K.l.mks.getD j 0 := by unfold nxT; rw [hh]
    rw [nxF]; rw [if_pos h, hh]
    show (if K.l.mks.getD k 0 < K.l.mks.getD j 0 then some k else some j) = some j
    rw [if_neg (by rw [← e0]; exact hl)]

set_option maxRecDepth 100000 in
set_option maxHeartbeats 4000000 in
theorem next_anyB {w0 w : World} {x b : Nat} {T : List Nat} {K : KS} {sv mv : Value} (h : KX w0 w x b T K sv mv) (hK : Kp w0 w) (ok : Kok K) : Calls Tryz.prog 31 #[.pointer (some ⟨x, 0, none⟩)] w fun e w' => e = .returned (.tuple #[.int .i64 (nxM K K.b.ms.length), .int .i64 (nxT K K.b.ms.length), .bool (nxB K K.b.ms.length)]) ∧ KX w0 w' x b T K sv mv ∧ Sp T w w' := by
  have hgd := h.bay.gd
  obtain ⟨m_, X, F, hT, hbx⟩ := h.bay
  subst hT
  obtain ⟨B, L⟩ := K
  obtain ⟨hn, hs1, hs2, he0, he1, hg⟩ := ok
  dsimp only at hn hs1 hs2 he0 he1 hg hgd hbx ⊢
  have hb1 := hgd.n1
  have hb2 := hgd.n2
  obtain ⟨N, hN⟩ : ∃ N, N = B.ms.length := ⟨_, rfl⟩
  rw [← hN] at hn hs1 hs2 hb1 hb2 ⊢
  have HN := hid hN
  have HX := hid h
  have HBX := hid hbx
  obtain ⟨g1, o1, c1, hsv, r1, r2, r3⟩ := h.n1.at (by dsimp only; omega)
  obtain ⟨g2, o2, c2, hmv, r4, r5, r6⟩ := h.n2.at (by dsimp only; omega)
  dsimp only at hsv hmv r1 r3 r4 r6
  rw [hs1] at hsv r1 r3
  rw [hs2] at hmv r4 r6
  subst hsv hmv
  have HR3 : Hid (∀ V, KX w0 V x b (b :: m_ :: F) ⟨B, L⟩ (.slice (some ⟨g1, o1, none⟩) N c1) (.slice (some ⟨g2, o2, none⟩) N c2) → ∀ j, j < N → V.cell? ⟨g1, o1 + j, none⟩ = some (.int .i64 (L.sts.getD j 0)) ∧ V.cell? ⟨g2, o2 + j, none⟩ = some (.int .i64 (L.mks.getD j 0))) := fun V hV j hj => by
    obtain ⟨g1', o1', c1', e1, _, _, q3⟩ := hV.n1.at (by dsimp only; omega)
    obtain ⟨g2', o2', c2', e2, _, _, q6⟩ := hV.n2.at (by dsimp only; omega)
    simp only [Value.slice.injEq, Option.some.injEq, Addr.mk.injEq, and_true] at e1 e2
    rw [e1.1.1, e1.1.2, e2.1.1, e2.1.2]
    exact ⟨q3 j (by dsimp only; omega), q6 j (by dsimp only; omega)⟩
  have HW : Hid (Kp w w) := Kp.refl w
  clear r3 r6 hN hgd h hbx
  have x1 := HX.out.c1
  dsimp only at x1
  have x1' : w.cell? ⟨x, 1, none⟩ = some (.int .i64 (N : Int)) := by rw [x1, hn]
  clear x1
  obtain ⟨NM, hNM⟩ : ∃ f, f = nxM ⟨B, L⟩ := ⟨_, rfl⟩
  obtain ⟨NT, hNT⟩ : ∃ f, f = nxT ⟨B, L⟩ := ⟨_, rfl⟩
  obtain ⟨NB, hNB⟩ : ∃ f, f = nxB ⟨B, L⟩ := ⟨_, rfl⟩
  rw [← hNM, ← hNT, ← hNB]
  have Hm := hid hNM
  have Ht := hid hNT
  have Hb := hid hNB
  have H0 : Hid (NM 0 = 0 ∧ NT 0 = 0 ∧ NB 0 = false) := by rw [hNM, hNT, hNB]; exact ⟨rfl, rfl, rfl⟩
  clear hNM hNT hNB
  go_enter Tryz.func31, Tryz.ntmps31
  go_wp2_with fail
  go_loopw [5, 6, 7, 18] (fun a1 a2 a3 j wr => ∃ k : Nat, k ≤ N ∧ j = .int .i64 k ∧ a1 = .int .i64 (NM k) ∧ a2 = .int .i64 (NT k) ∧ a3 = .bool (NB k) ∧ Hid (BX w0 wr b m_ X F B) ∧ Hid (Sp (b :: m_ :: F) w wr)) (fun _ _ _ j _ => N - (intOf j).toNat)
  case atStart => exact ⟨0, by omega, by go_num, by rw [H0.out.1], by rw [H0.out.2.1], by rw [H0.out.2.2], HBX, Sp.refl _ _⟩
  case round =>
    clear x1' H0 HBX
    obtain ⟨k, hk, rfl, rfl, rfl, rfl, HB, HS⟩ := hrel
    have HXk : Hid (KX w0 wr x b (b :: m_ :: F) ⟨B, L⟩ (.slice (some ⟨g1, o1, none⟩) N c1) (.slice (some ⟨g2, o2, none⟩) N c2)) := HX.out.bayX ⟨m_, X, F, rfl, HB.out⟩ HS.out (Nw.refl _ _)
    by_cases hlt : k < N
    · obtain ⟨st, mt⟩ := HR3.out wr HXk.out k hlt
      have x0 := HXk.out.c0
      have x4 := HXk.out.c4
      have x5 := HXk.out.c5
      obtain ⟨S1, hS1⟩ : ∃ S, S = L.sts.getD k 0 := ⟨_, rfl⟩
      obtain ⟨S2, hS2⟩ : ∃ S, S = L.mks.getD k 0 := ⟨_, rfl⟩
      rw [← hS1] at st
      rw [← hS2] at mt
      have HS1 := hid hS1
      have HS2 := hid hS2
      clear hS1 hS2
      by_cases h1 : S1 = 2
      · have hfd : fdE B (k : Int) = 0 := fd_in (by omega) (by rw [← HN.out]; omega)
        have hM := bx_member HB.out hfd
        have hD := bx_dead HB.out hfd
        rw [show (bm B (k : Int)).dead = ddB B k by unfold bm ddB; rw [Int.toNat_natCast]] at hD
        obtain ⟨dd, hdd⟩ : ∃ d, d = ddB B k := ⟨_, rfl⟩
        rw [← hdd] at hD
        have Hdd := hid hdd
        subst h1
        clear hdd hfd
        go_wp2_with fail
        refine hM.mono ?_; rintro e y1 ⟨rfl, hy⟩
        subst y1
        clear hM
        go_wp2_with fail
        refine hD.mono ?_; rintro e y2 ⟨rfl, hB2, s2⟩
        have HB2 := hid hB2
        have HS2' : Hid (Sp (b :: m_ :: F) w y2) := HS.out.trans (s2.mono (fun t ht => by simp [ht]))
        have HX2 : Hid (KX w0 y2 x b (b :: m_ :: F) ⟨B, L⟩ (.slice (some ⟨g1, o1, none⟩) N c1) (.slice (some ⟨g2, o2, none⟩) N c2)) := HX.out.bayX ⟨m_, X, F, rfl, hB2⟩ HS2'.out (Nw.refl _ _)
        clear hD hB2 s2 st mt x0 x4 x5
        cases dd with
        | true =>
          have es := nx_skip (K := ⟨B, L⟩) (k := k) (fun h => by have h2 := h.2; dsimp only at h2; rw [← Hdd.out] at h2; cases h2)
          have HE : Hid (NM (k + 1) = NM k ∧ NT (k + 1) = NT k ∧ NB (k + 1) = NB k) := by
            rw [Hm.out, Ht.out, Hb.out]; unfold nxM nxT nxB; rw [es]; exact ⟨rfl, rfl, rfl⟩
          clear es
          go_wp2
          go_roundw
          case rel => exact ⟨k + 1, by omega, by go_num, by rw [HE.out.1], by rw [HE.out.2.1], by rw [HE.out.2.2], HB2, HS2'⟩
          case measure => simp [intOf]; omega
        | false =>
          have hyes : (⟨B, L⟩ : KS).l.sts.getD k 0 = 2 ∧ ddB (⟨B, L⟩ : KS).b k = false := ⟨HS1.out.symm, Hdd.out.symm⟩
          have mt := (HR3.out y2 HX2.out k hlt).2
          rw [← HS2.out] at mt
          have x5 := HX2.out.c5
          cases hf : NB k with
          | false =>
            have e3 := nx_first hyes (by rw [← Hb.out]; exact hf)
            rw [← Hm.out, ← Ht.out, ← Hb.out] at e3
            have HE : Hid (NM (k + 1) = (k : Int) ∧ NT (k + 1) = S2 ∧ NB (k + 1) = true) := ⟨e3.2.1, e3.2.2.trans HS2.out.symm, e3.1⟩
            clear e3 hyes
            go_wp2
            go_roundw
            case rel => exact ⟨k + 1, by omega, by go_num, by rw [HE.out.1], by rw [HE.out.2.1], by rw [HE.out.2.2], HB2, HS2'⟩
            case measure => simp [intOf]; omega
          | true =>
            by_cases hl : S2 < NT k
            · have e3 := nx_less hyes (by rw [← Hb.out]; exact hf) (by rw [← Ht.out]; dsimp only; rw [← HS2.out]; exact hl)
              rw [← Hm.out, ← Ht.out, ← Hb.out] at e3
              have HE : Hid (NM (k + 1) = (k : Int) ∧ NT (k + 1) = S2 ∧ NB (k + 1) = true) := ⟨e3.2.1, e3.2.2.trans HS2.out.symm, e3.1⟩
              clear e3 hyes
              go_wp2
              go_roundw
              case rel => exact ⟨k + 1, by omega, by go_num, by rw [HE.out.1], by rw [HE.out.2.1], by rw [HE.out.2.2], HB2, HS2'⟩
              case measure => simp [intOf]; omega
            · have es := nx_more hyes (by rw [← Hb.out]; exact hf) (by rw [← Ht.out]; dsimp only; rw [← HS2.out]; exact hl)
              have HE : Hid (NM (k + 1) = NM k ∧ NT (k + 1) = NT k ∧ NB (k + 1) = true) := by
                refine ⟨?_, ?_, ?_⟩
                · rw [Hm.out]; unfold nxM; rw [es]
                · rw [Ht.out]; unfold nxT; rw [es]
                · rw [Hb.out]; unfold nxB; rw [es]; have := hf; rw [Hb.out] at this; unfold nxB at this; exact this
              clear es hyes
              go_wp2
              go_roundw
              case rel => exact ⟨k + 1, by omega, by go_num, by rw [HE.out.1], by rw [HE.out.2.1], by rw [HE.out.2.2], HB2, HS2'⟩
              case measure => simp [intOf]; omega
      · have es := nx_skip (K := ⟨B, L⟩) (k := k) (fun h => h1 (HS1.out.trans h.1))
        have HE : Hid (NM (k + 1) = NM k ∧ NT (k + 1) = NT k ∧ NB (k + 1) = NB k) := by
          rw [Hm.out, Ht.out, Hb.out]; unfold nxM nxT nxB; rw [es]; exact ⟨rfl, rfl, rfl⟩
        have b1 : (S1 == 2) = false := by simpa using h1
        clear es
        go_wp2
        go_roundw
        case rel => exact ⟨k + 1, by omega, by go_num, by rw [HE.out.1], by rw [HE.out.2.1], by rw [HE.out.2.2], HB, HS⟩
        case measure => simp [intOf]; omega
    · have ek : k = N := by omega
      subst ek
      go_wp2
      go_ret3
      exact ⟨rfl, HXk.out, HS.out⟩

end Go.Proofs.YtinpkfdmellleaaGreat
