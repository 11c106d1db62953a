/-
  A member in memory: its sectors, its row of writes, its own cells with the lock; what is left where other blocks are turned. Plain facts; no condition.
-/
import Derived.Test.YtmklkdopmemfaaaMmPlain
import Derived.Test.YtmklkdopmemfaaaMmLock
import Derived.Test.YtmklkdopmemfaaaBufCls
import Derived.Deep.MidRow
import Derived.Laws.BytesArg
import Derived.Laws.AppendOwnNone
import Derived.Maps.AppendAt
import Derived.Deep.OwnRows
namespace Go.Proofs.Ytmklkdopmemfaaa
open Go.RowKit Plain

/-- w' is w with whatever is new behind it, and with stores into the blocks of T. -/
structure Sp (T : List Nat) (w w' : World) : Prop where
  os : w'.os = w.os
  tape : w'.tape = w.tape
  output : w'.output = w.output
  size : w.heap.size ≤ w'.heap.size
  block : ∀ k, k < w.heap.size → k ∉ T → w'.heap[k]? = w.heap[k]?
theorem Sp.refl (T : List Nat) (w : World) : Sp T w w := ⟨rfl, rfl, rfl, Nat.le_refl _, fun _ _ _ => rfl⟩
theorem Sp.trans {T : List Nat} {a b c : World} (h : Sp T a b) (k : Sp T b c) : Sp T a c :=
  ⟨k.os.trans h.os, k.tape.trans h.tape, k.output.trans h.output, Nat.le_trans h.size k.size, fun i hi hn => (k.block i (Nat.lt_of_lt_of_le hi h.size) hn).trans (h.block i hi hn)⟩
theorem Sp.mono {T T' : List Nat} {a b : World} (h : Sp T a b) (hs : ∀ t, t ∈ T → t ∈ T') : Sp T' a b :=
  ⟨h.os, h.tape, h.output, h.size, fun i hi hn => h.block i hi (fun ht => hn (hs i ht))⟩
theorem Kp.sp {a b : World} (h : Kp a b) (T : List Nat) : Sp T a b := ⟨h.os, h.tape, h.output, h.size, fun i hi _ => h.block i hi⟩
theorem Sp.set {T : List Nat} {a b : World} (h : Sp T a b) (B i : Nat) (hB : B ∈ T) (v : Value) : Sp T a (b.setCell ⟨B, i, none⟩ v) :=
  h.trans ⟨rfl, rfl, rfl, by simp [World.setCell], fun k _ hk => Below.heap_setCell _ _ _ _ (fun e => hk (by rw [e]; exact hB))⟩
theorem Sp.setCells {T : List Nat} {a : World} (B : Nat) (hB : B ∈ T) : ∀ (vs : List Value) (o : Nat) (b : World), Sp T a b → Sp T a (b.setCells B o vs)
  | [], _, _, h => h
  | v :: r, o, b, h => by
    rw [World.setCells]
    exact Sp.setCells B hB r (o + 1) _ (h.set B o hB v)
/-- the blocks of T' are those of T, or new. -/
def Nw (w : World) (T T' : List Nat) : Prop := ∀ t, t ∈ T' → t ∈ T ∨ w.heap.size ≤ t
theorem Nw.refl (w : World) (T : List Nat) : Nw w T T := fun _ h => .inl h
theorem Nw.trans {w w' : World} {T T' T'' : List Nat} (h : Nw w T T') (k : Nw w' T' T'') (hs : w.heap.size ≤ w'.heap.size) : Nw w T T'' := fun t ht => by
  rcases k t ht with h1 | h1
  · exact h t h1
  · exact .inr (Nat.le_trans hs h1)
/-- two steps, the second at blocks that the first one left. -/
theorem Sp.then {T T' : List Nat} {a b c : World} (h : Sp T a b) (k : Sp T' b c) (hn : Nw a T T') : Sp T a c :=
  ⟨k.os.trans h.os, k.tape.trans h.tape, k.output.trans h.output, Nat.le_trans h.size k.size, fun i hi hT => (k.block i (Nat.lt_of_lt_of_le hi h.size) (fun ht => by
    rcases hn i ht with h1 | h1
    · exact hT h1
    · omega)).trans (h.block i hi hT)⟩
theorem Sp.kp {T : List Nat} {w0 w w' : World} (h0 : Kp w0 w) (h : Sp T w w') (hT : ∀ t, t ∈ T → w0.heap.size ≤ t) : Kp w0 w' :=
  ⟨h.os.trans h0.os, h.tape.trans h0.tape, h.output.trans h0.output, Nat.le_trans h0.size h.size, fun k hk => (h.block k (Nat.lt_of_lt_of_le hk h0.size) (fun ht => by have := hT k ht; omega)).trans (h0.block k hk)⟩
theorem Sp.cell {T : List Nat} {w w' : World} (h : Sp T w w') {b : Nat} (hb : b < w.heap.size) (hn : b ∉ T) (o : Nat) : w'.cell? ⟨b, o, none⟩ = w.cell? ⟨b, o, none⟩ := World.cell?_of_block (w := w) (a := ⟨b, o, none⟩) (h.block b hb hn)
theorem Sp.frozen {T : List Nat} {w w' : World} (h : Sp T w w') {b : Nat} (hb : b < w.heap.size) (hn : b ∉ T) (o : Nat) : w'.frozen? ⟨b, o, none⟩ = w.frozen? ⟨b, o, none⟩ := World.frozen?_of_block (w := w) (a := ⟨b, o, none⟩) (h.block b hb hn)
theorem Sp.held {T : List Nat} {w w' : World} (h : Sp T w w') {b o : Nat} {v : Value} (hc : w.cell? ⟨b, o, none⟩ = some v) (hn : b ∉ T) : w'.cell? ⟨b, o, none⟩ = some v := (h.cell (World.block_lt_of_cell? w _ hc) hn o).trans hc
theorem Sp.range {T : List Nat} {w w' : World} (h : Sp T w w') {b o : Nat} {cs : List Value} (hc : w.rangeAt b o cs) (hn : b ∉ T) : w'.rangeAt b o cs := fun j v hv => h.held (hc j v hv) hn
theorem Sp.there {T : List Nat} {w w' : World} (h : Sp T w w') {b o n : Nat} (hc : w.there b o n) (hn : b ∉ T) : w'.there b o n := fun j hj => by
  obtain ⟨h1, h2⟩ := hc j hj
  obtain ⟨v, hv⟩ := Option.isSome_iff_exists.1 h1
  have hb := World.block_lt_of_cell? w _ hv
  exact ⟨by rw [h.held hv hn]; rfl, (h.frozen hb hn _).trans h2⟩
theorem Sp.own {T : List Nat} {w w' : World} (h : Sp T w w') {base : Nat} {e : TypeId} {size : Nat} {v : Value} {n : Nat} {xs : List Value} (ho : w.ownsRow base e size v n xs) (hn : ∀ g, v.ownBlock = some g → g ∉ T) : w'.ownsRow base e size v n xs := by
  rcases ho.2 with ⟨h', h0⟩ | ⟨g, cap, cur, h', hb, hg, hr⟩
  · exact ⟨ho.1, .inl ⟨h', h0⟩⟩
  · refine ⟨ho.1, .inr ⟨g, cap, cur, h', hb, (h.block g (Array.getElem?_eq_some_iff.1 hg).1 (hn g (by rw [h']; rfl))).trans hg, hr⟩⟩
theorem cell_off (w : World) (b i j : Nat) (v : Value) (h : j ≠ i) : (w.setCell ⟨b, i, none⟩ v).cell? ⟨b, j, none⟩ = w.cell? ⟨b, j, none⟩ := World.cell?_setCell_other _ _ _ _ (by intro e; cases e; exact h rfl)

/-! ### sectors -/
theorem bc_len (s : ByteArray) : (byteCells s).length = s.size := byteCells_length s
theorem bc_one (s : ByteArray) : ∀ v ∈ byteCells s, v.oneCell' = true := by
  intro v hv
  obtain ⟨b, _, rfl⟩ := List.mem_map.1 hv
  rfl
theorem getD_mem {L : List ByteArray} {i : Nat} (h : i < L.length) : L.getD i noS ∈ L := mem_of_at L i h
theorem getD_set_eq {α : Type} {L : List α} {i : Nat} (h : i < L.length) (t d : α) : (L.set i t).getD i d = t := by
  rw [List.getD_eq_getElem?_getD, List.getElem?_set_self h]; rfl
theorem getD_set_ne {α : Type} {L : List α} {i j : Nat} (h : i ≠ j) (t d : α) : (L.set i t).getD j d = L.getD j d := by
  rw [List.getD_eq_getElem?_getD, List.getElem?_set_ne h, ← List.getD_eq_getElem?_getD]
structure SecIn (w : World) (g : Nat) (L : List ByteArray) : Prop where
  c : ∀ i, i < L.length → w.rangeAt g (i * 64) (byteCells (L.getD i noS))
  t : w.there g 0 (L.length * 64)
  z : ∀ s ∈ L, s.size = 64
theorem SecIn.sz {w : World} {g : Nat} {L : List ByteArray} (h : SecIn w g L) {i : Nat} (hi : i < L.length) : (byteCells (L.getD i noS)).length = 64 := by rw [bc_len]; exact h.z _ (getD_mem hi)
theorem SecIn.at {w : World} {g : Nat} {L : List ByteArray} (h : SecIn w g L) {i : Nat} (hi : i < L.length) : w.there g (i * 64) 64 := fun j hj => by
  have := h.t (i * 64 + j) (by omega)
  rwa [Nat.zero_add] at this
theorem SecIn.sp {w w' : World} {g : Nat} {L : List ByteArray} (h : SecIn w g L) {T : List Nat} (k : Sp T w w') (hg : g ∉ T) : SecIn w' g L :=
  ⟨fun i hi => k.range (h.c i hi) hg, k.there h.t hg, h.z⟩
theorem SecIn.set {w : World} {g : Nat} {L : List ByteArray} (h : SecIn w g L) (i : Nat) (hi : i < L.length) (s : ByteArray) (hs : s.size = 64) : SecIn (w.setCells g (i * 64) (byteCells s)) g (L.set i s) := by
  refine ⟨fun j hj => ?_, ?_, set_all h.z i s hs⟩
  · rw [List.length_set] at hj
    by_cases e : i = j
    · subst e
      rw [getD_set_eq hi]
      exact World.rangeAt_setCells_same w g _ _ (by rw [bc_len, hs]; exact h.at hi)
    · rw [getD_set_ne e]
      refine World.rangeAt_setCells_apart (h.c j hj) g _ _ (.inr ?_)
      have := h.sz hj
      rw [this, bc_len, hs]
      omega
  · rw [List.length_set]; exact World.there_setCells h.t g _ _

/-! ### writes -/
def wc (p : Nat × ByteArray) : List Value := .int .i64 (p.1 : Int) :: byteCells p.2
theorem wc_len (p : Nat × ByteArray) : (wc p).length = p.2.size + 1 := by simp only [wc, List.length_cons, bc_len]
theorem wc_one (p : Nat × ByteArray) : ∀ v ∈ wc p, v.oneCell' = true := by
  intro v hv
  rcases List.mem_cons.1 hv with rfl | hv
  · rfl
  · exact bc_one _ v hv
def wcs : List (Nat × ByteArray) → List Value
  | [] => []
  | p :: r => wc p ++ wcs r
theorem wcs_app : ∀ r q, wcs (r ++ q) = wcs r ++ wcs q
  | [], _ => rfl
  | p :: r, q => by simp only [wcs, List.cons_append, wcs_app r q, List.append_assoc]
theorem wcs_len : ∀ r, (∀ p ∈ r, p.2.size = 64) → (wcs r).length = r.length * 65
  | [], _ => rfl
  | p :: r, h => by
    simp only [wcs, List.length_append, List.length_cons, wcs_len r (fun q hq => h q (List.mem_cons_of_mem _ hq)), wc_len, h p List.mem_cons_self]
    omega
theorem wcs_one : ∀ r, ∀ v ∈ wcs r, v.oneCell' = true
  | [], v, h => by cases h
  | p :: r, v, h => by
    rcases List.mem_append.1 h with h | h
    · exact wc_one p v h
    · exact wcs_one r v h
theorem wcs_at : ∀ (r : List (Nat × ByteArray)) (i : Nat), (∀ p ∈ r, p.2.size = 64) → i < r.length → ∀ (j : Nat) (u : Value), (wc (r.getD i (0, noS)))[j]? = some u → (wcs r)[i * 65 + j]? = some u
  | [], i, _, h, _, _, _ => by simp at h
  | p :: r, 0, hz, _, j, u, hu => by
    have hu' : (wc p)[j]? = some u := hu
    have hj := (List.getElem?_eq_some_iff.1 hu').1
    rw [Nat.zero_mul, Nat.zero_add]
    show (wc p ++ wcs r)[j]? = some u
    rw [List.getElem?_append_left hj]
    exact hu'
  | p :: r, i + 1, hz, h, j, u, hu => by
    have h1 := wcs_at r i (fun q hq => hz q (List.mem_cons_of_mem _ hq)) (by simpa using h) j u hu
    show (wc p ++ wcs r)[(i + 1) * 65 + j]? = some u
    have hl : (wc p).length = 65 := by rw [wc_len, hz p List.mem_cons_self]
    rw [List.getElem?_append_right (by rw [hl]; omega), hl, show (i + 1) * 65 + j - 65 = i * 65 + j by omega]
    exact h1
structure RowIn (w : World) (v : Value) (r : List (Nat × ByteArray)) : Prop where
  o : w.ownsRow 0 112 65 v r.length (wcs r)
  z : ∀ p ∈ r, p.2.size = 64
theorem RowIn.nil (w : World) : RowIn w (.slice none 0 0) [] := ⟨World.ownsRow_nil w 0 _ 65, fun p h => (by cases h)⟩
theorem RowIn.sp {w w' : World} {v : Value} {r : List (Nat × ByteArray)} (h : RowIn w v r) {T : List Nat} (k : Sp T w w') (hg : ∀ g, v.ownBlock = some g → g ∉ T) : RowIn w' v r := ⟨k.own h.o hg, h.z⟩
/-- a row that isn't empty. -/
theorem RowIn.some {w : World} {v : Value} {r : List (Nat × ByteArray)} (h : RowIn w v r) (h0 : 0 < r.length) : ∃ g cap, v = .slice (some ⟨g, 0, none⟩) r.length cap ∧ r.length ≤ cap ∧ cap ≤ maxLen ∧ w.there g 0 (cap * 65) ∧ (∀ i, i < r.length → w.rangeAt g (i * 65) (wc (r.getD i (0, noS)))) := by
  rcases h.o.2 with ⟨_, h1⟩ | ⟨g, cap, cur, rfl, _, hg, hn, hm, hcs, htake⟩
  · omega
  · refine ⟨g, cap, rfl, hn, hm, fun j hj => ?_, fun i hi j u hu => ?_⟩
    · have hj2 : j < cur.size := by rw [hcs]; exact hj
      simp [World.cell?, World.frozen?, hg, hj2]
    · have h2 := wcs_at r i h.z hi j u hu
      have h3 := h.o.cellAt (i * 65 + j) (by have := (List.getElem?_eq_some_iff.1 h2).1; rw [wcs_len r h.z] at this; exact this)
      rw [h3, h2]
theorem RowIn.len {w : World} {v : Value} {r : List (Nat × ByteArray)} (h : RowIn w v r) : ∃ a cap, v = .slice a r.length cap ∧ r.length ≤ cap ∧ cap ≤ 9223372036854775807 := by
  rcases h.o.2 with ⟨rfl, h1⟩ | ⟨g, cap, cur, rfl, _, _, hn, hm, _⟩
  · exact ⟨none, 0, by rw [h1], by omega, by omega⟩
  · exact ⟨_, cap, rfl, hn, by unfold maxLen at hm; omega⟩

/-! ### a member -/
structure MemIn (w : World) (b bn bl : Nat) (rv : Value) (S : MS) (x y : Int) : Prop where
  hb : b < w.heap.size
  cn : ∀ j, j < 4 → w.cell? ⟨b, j, none⟩ = some (.int .i64 (S.c j))
  l4 : w.cell? ⟨b, 4, none⟩ = some (.int .i32 x)
  l6 : w.cell? ⟨b, 6, none⟩ = some (.int .u32 0)
  l7 : w.cell? ⟨b, 7, none⟩ = some (.int .u32 0)
  l8 : w.cell? ⟨b, 8, none⟩ = some (.int .i32 y)
  cN : w.cell? ⟨b, 10, none⟩ = some (.slice (some ⟨bn, 0, none⟩) S.las.length S.las.length)
  cL : w.cell? ⟨b, 11, none⟩ = some (.slice (some ⟨bl, 0, none⟩) S.las.length S.las.length)
  cR : w.cell? ⟨b, 12, none⟩ = some rv
  cD : w.cell? ⟨b, 13, none⟩ = some (.bool S.dead)
  z : ∀ o, w.frozen? ⟨b, o, none⟩ = false
  sn : SecIn w bn S.now
  sl : SecIn w bl S.las
  rw : RowIn w rv S.row
  n1 : bn ≠ b
  n2 : bl ≠ b
  n3 : bl ≠ bn
  n4 : ∀ g, rv.ownBlock = some g → g ≠ b ∧ g ≠ bn ∧ g ≠ bl
  fine : Fine S
/-- its blocks. -/
def blk (b bn bl : Nat) (rv : Value) : List Nat := b :: bn :: bl :: rv.ownBlock.toList
theorem MemIn.sp {w w' : World} {b bn bl : Nat} {rv : Value} {S : MS} {x y : Int} (h : MemIn w b bn bl rv S x y) {T : List Nat} (k : Sp T w w') (hT : ∀ t, t ∈ blk b bn bl rv → t ∉ T) : MemIn w' b bn bl rv S x y := by
  have h0 : b ∉ T := hT b (by simp [blk])
  exact ⟨Nat.lt_of_lt_of_le h.hb k.size, fun j hj => k.held (h.cn j hj) h0, k.held h.l4 h0, k.held h.l6 h0, k.held h.l7 h0, k.held h.l8 h0, k.held h.cN h0, k.held h.cL h0, k.held h.cR h0, k.held h.cD h0,
    fun o => (k.frozen h.hb h0 o).trans (h.z o), h.sn.sp k (hT bn (by simp [blk])), h.sl.sp k (hT bl (by simp [blk])), h.rw.sp k (fun g hg => hT g (by simp [blk, hg])), h.n1, h.n2, h.n3, h.n4, h.fine⟩
theorem MemIn.kp {w w' : World} {b bn bl : Nat} {rv : Value} {S : MS} {x y : Int} (h : MemIn w b bn bl rv S x y) (k : Kp w w') : MemIn w' b bn bl rv S x y := h.sp (k.sp []) (fun _ _ h => by cases h)
/-- a store into its own block. -/
theorem MemIn.own {w w' : World} {b bn bl : Nat} {rv : Value} {S : MS} {x y : Int} (h : MemIn w b bn bl rv S x y) (k : Sp [b] w w') : SecIn w' bn S.now ∧ SecIn w' bl S.las ∧ RowIn w' rv S.row :=
  ⟨h.sn.sp k (by simpa using h.n1), h.sl.sp k (by simpa using h.n2), h.rw.sp k (fun g hg => by simpa using (h.n4 g hg).1)⟩
theorem MemIn.lock {w : World} {b bn bl : Nat} {rv : Value} {S : MS} {x y : Int} (h : MemIn w b bn bl rv S x y) (x' : Int) : MemIn (w.setCell ⟨b, 4, none⟩ (.int .i32 x')) b bn bl rv S x' y := by
  obtain ⟨h1, h2, h3⟩ := h.own ((Sp.refl [b] w).set b 4 (by simp) (.int .i32 x'))
  exact ⟨by simpa [World.setCell] using h.hb, fun j hj => by rw [cell_off _ _ _ _ _ (by omega)]; exact h.cn j hj, World.cell?_setCell_same _ _ _ h.l4, by rw [cell_off _ _ _ _ _ (by omega)]; exact h.l6, by rw [cell_off _ _ _ _ _ (by omega)]; exact h.l7, by rw [cell_off _ _ _ _ _ (by omega)]; exact h.l8,
    by rw [cell_off _ _ _ _ _ (by omega)]; exact h.cN, by rw [cell_off _ _ _ _ _ (by omega)]; exact h.cL, by rw [cell_off _ _ _ _ _ (by omega)]; exact h.cR, by rw [cell_off _ _ _ _ _ (by omega)]; exact h.cD,
    fun o => (World.frozen?_setCell _ _ _ _).trans (h.z o), h1, h2, h3, h.n1, h.n2, h.n3, h.n4, h.fine⟩
theorem MemIn.readers {w : World} {b bn bl : Nat} {rv : Value} {S : MS} {x y : Int} (h : MemIn w b bn bl rv S x y) (y' : Int) : MemIn (w.setCell ⟨b, 8, none⟩ (.int .i32 y')) b bn bl rv S x y' := by
  obtain ⟨h1, h2, h3⟩ := h.own ((Sp.refl [b] w).set b 8 (by simp) (.int .i32 y'))
  exact ⟨by simpa [World.setCell] using h.hb, fun j hj => by rw [cell_off _ _ _ _ _ (by omega)]; exact h.cn j hj, by rw [cell_off _ _ _ _ _ (by omega)]; exact h.l4, by rw [cell_off _ _ _ _ _ (by omega)]; exact h.l6, by rw [cell_off _ _ _ _ _ (by omega)]; exact h.l7, World.cell?_setCell_same _ _ _ h.l8,
    by rw [cell_off _ _ _ _ _ (by omega)]; exact h.cN, by rw [cell_off _ _ _ _ _ (by omega)]; exact h.cL, by rw [cell_off _ _ _ _ _ (by omega)]; exact h.cR, by rw [cell_off _ _ _ _ _ (by omega)]; exact h.cD,
    fun o => (World.frozen?_setCell _ _ _ _).trans (h.z o), h1, h2, h3, h.n1, h.n2, h.n3, h.n4, h.fine⟩
theorem MemIn.count {w : World} {b bn bl : Nat} {rv : Value} {S : MS} {x y : Int} (h : MemIn w b bn bl rv S x y) (i : Nat) (hi : i < 4) : MemIn (w.setCell ⟨b, i, none⟩ (.int .i64 (wrap64 (S.c i + 1)))) b bn bl rv ⟨S.now, S.las, S.row, S.dead, up S.c i⟩ x y := by
  obtain ⟨h1, h2, h3⟩ := h.own ((Sp.refl [b] w).set b i (by simp) (.int .i64 (wrap64 (S.c i + 1))))
  refine ⟨by simpa [World.setCell] using h.hb, fun j hj => ?_, by rw [cell_off _ _ _ _ _ (by omega)]; exact h.l4, by rw [cell_off _ _ _ _ _ (by omega)]; exact h.l6, by rw [cell_off _ _ _ _ _ (by omega)]; exact h.l7, by rw [cell_off _ _ _ _ _ (by omega)]; exact h.l8,
    by rw [cell_off _ _ _ _ _ (by omega)]; exact h.cN, by rw [cell_off _ _ _ _ _ (by omega)]; exact h.cL, by rw [cell_off _ _ _ _ _ (by omega)]; exact h.cR, by rw [cell_off _ _ _ _ _ (by omega)]; exact h.cD,
    fun o => (World.frozen?_setCell _ _ _ _).trans (h.z o), h1, h2, h3, h.n1, h.n2, h.n3, h.n4, ⟨h.fine.n1, h.fine.n2, h.fine.nn, h.fine.bn, h.fine.bl, h.fine.br⟩⟩
  show _ = some (Value.int .i64 (up S.c i j))
  unfold up
  by_cases e : j = i
  · subst e; rw [World.cell?_setCell_same _ _ _ (h.cn j hj), if_pos rfl]
  · rw [cell_off _ _ _ _ _ e, h.cn j hj, if_neg e]
theorem MemIn.death {w : World} {b bn bl : Nat} {rv : Value} {S : MS} {x y : Int} (h : MemIn w b bn bl rv S x y) (d : Bool) : MemIn (w.setCell ⟨b, 13, none⟩ (.bool d)) b bn bl rv ⟨S.now, S.las, S.row, d, S.c⟩ x y := by
  obtain ⟨h1, h2, h3⟩ := h.own ((Sp.refl [b] w).set b 13 (by simp) (.bool d))
  exact ⟨by simpa [World.setCell] using h.hb, fun j hj => by rw [cell_off _ _ _ _ _ (by omega)]; exact h.cn j hj, by rw [cell_off _ _ _ _ _ (by omega)]; exact h.l4, by rw [cell_off _ _ _ _ _ (by omega)]; exact h.l6, by rw [cell_off _ _ _ _ _ (by omega)]; exact h.l7, by rw [cell_off _ _ _ _ _ (by omega)]; exact h.l8,
    by rw [cell_off _ _ _ _ _ (by omega)]; exact h.cN, by rw [cell_off _ _ _ _ _ (by omega)]; exact h.cL, by rw [cell_off _ _ _ _ _ (by omega)]; exact h.cR, World.cell?_setCell_same _ _ _ h.cD,
    fun o => (World.frozen?_setCell _ _ _ _).trans (h.z o), h1, h2, h3, h.n1, h.n2, h.n3, h.n4, ⟨h.fine.n1, h.fine.n2, h.fine.nn, h.fine.bn, h.fine.bl, h.fine.br⟩⟩
/-- another row. -/
theorem MemIn.row {w : World} {b bn bl : Nat} {rv : Value} {S : MS} {x y : Int} (h : MemIn w b bn bl rv S x y) {w' : World} (k : Sp (rv.ownBlock.toList) w w') (rv' : Value) (r : List (Nat × ByteArray)) (hr : RowIn w' rv' r) (hn : ∀ g, rv'.ownBlock = some g → g ≠ b ∧ g ≠ bn ∧ g ≠ bl) (hz : ∀ p ∈ r, p.1 < S.las.length) :
    MemIn (w'.setCell ⟨b, 12, none⟩ rv') b bn bl rv' ⟨S.now, S.las, r, S.dead, S.c⟩ x y := by
  have q := (Sp.refl [b] w').set b 12 (by simp) rv'
  have hT : ∀ t, t = b ∨ t = bn ∨ t = bl → t ∉ rv.ownBlock.toList := fun t ht hm => by
    obtain ⟨h1, h2, h3⟩ := h.n4 t (by simpa using hm)
    rcases ht with rfl | rfl | rfl
    · exact h1 rfl
    · exact h2 rfl
    · exact h3 rfl
  have hB := hT b (.inl rfl)
  have hl := Nat.lt_of_lt_of_le h.hb k.size
  exact ⟨Nat.lt_of_lt_of_le hl q.size, fun j hj => by rw [cell_off _ _ _ _ _ (by omega)]; exact k.held (h.cn j hj) hB, by rw [cell_off _ _ _ _ _ (by omega)]; exact k.held h.l4 hB, by rw [cell_off _ _ _ _ _ (by omega)]; exact k.held h.l6 hB, by rw [cell_off _ _ _ _ _ (by omega)]; exact k.held h.l7 hB, by rw [cell_off _ _ _ _ _ (by omega)]; exact k.held h.l8 hB,
    by rw [cell_off _ _ _ _ _ (by omega)]; exact k.held h.cN hB, by rw [cell_off _ _ _ _ _ (by omega)]; exact k.held h.cL hB, World.cell?_setCell_same _ _ _ (k.held h.cR hB), by rw [cell_off _ _ _ _ _ (by omega)]; exact k.held h.cD hB,
    fun o => (World.frozen?_setCell _ _ _ _).trans ((k.frozen h.hb hB o).trans (h.z o)), (h.sn.sp k (hT bn (.inr (.inl rfl)))).sp q (by simpa using h.n1), (h.sl.sp k (hT bl (.inr (.inr rfl)))).sp q (by simpa using h.n2), hr.sp q (fun g hg => by simpa using (hn g hg).1),
    h.n1, h.n2, h.n3, hn, ⟨h.fine.n1, h.fine.n2, h.fine.nn, h.fine.bn, h.fine.bl, fun p hp => ⟨hz p hp, hr.z p hp⟩⟩⟩
/-- other sectors. -/
theorem MemIn.nows {w : World} {b bn bl : Nat} {rv : Value} {S : MS} {x y : Int} (h : MemIn w b bn bl rv S x y) {w' : World} (k : Sp [bn] w w') (L : List ByteArray) (hL : SecIn w' bn L) (hl : L.length = S.las.length) : MemIn w' b bn bl rv ⟨L, S.las, S.row, S.dead, S.c⟩ x y := by
  have h0 : b ∉ [bn] := by simpa using h.n1.symm
  exact ⟨Nat.lt_of_lt_of_le h.hb k.size, fun j hj => k.held (h.cn j hj) h0, k.held h.l4 h0, k.held h.l6 h0, k.held h.l7 h0, k.held h.l8 h0, k.held h.cN h0, k.held h.cL h0, k.held h.cR h0, k.held h.cD h0,
    fun o => (k.frozen h.hb h0 o).trans (h.z o), hL, h.sl.sp k (by simpa using h.n3), h.rw.sp k (fun g hg => by simpa using (h.n4 g hg).2.1), h.n1, h.n2, h.n3, h.n4, ⟨h.fine.n1, h.fine.n2, hl, hL.z, h.fine.bl, h.fine.br⟩⟩
theorem MemIn.lasts {w : World} {b bn bl : Nat} {rv : Value} {S : MS} {x y : Int} (h : MemIn w b bn bl rv S x y) {w' : World} (k : Sp [bl] w w') (L : List ByteArray) (hL : SecIn w' bl L) (hl : L.length = S.las.length) : MemIn w' b bn bl rv ⟨S.now, L, S.row, S.dead, S.c⟩ x y := by
  have h0 : b ∉ [bl] := by simpa using h.n2.symm
  exact ⟨Nat.lt_of_lt_of_le h.hb k.size, fun j hj => k.held (h.cn j hj) h0, k.held h.l4 h0, k.held h.l6 h0, k.held h.l7 h0, k.held h.l8 h0, by show _ = some (Value.slice _ L.length L.length); rw [hl]; exact k.held h.cN h0, by show _ = some (Value.slice _ L.length L.length); rw [hl]; exact k.held h.cL h0, k.held h.cR h0, k.held h.cD h0,
    fun o => (k.frozen h.hb h0 o).trans (h.z o), h.sn.sp k (by simpa using h.n3.symm), hL, h.rw.sp k (fun g hg => by simpa using (h.n4 g hg).2.2), h.n1, h.n2, h.n3, h.n4, ⟨by show 1 ≤ L.length; rw [hl]; exact h.fine.n1, by show L.length ≤ 256; rw [hl]; exact h.fine.n2, by show _ = L.length; rw [hl]; exact h.fine.nn, h.fine.bn, hL.z, fun p hp => ⟨by show _ < L.length; rw [hl]; exact (h.fine.br p hp).1, (h.fine.br p hp).2⟩⟩⟩
theorem MemIn.low {w : World} {b bn bl : Nat} {rv : Value} {S : MS} {x y : Int} (h : MemIn w b bn bl rv S x y) : ∀ t, t ∈ blk b bn bl rv → t < w.heap.size := fun t ht => by
  have hn := h.fine.n1
  have e1 : bn < w.heap.size := by
    obtain ⟨v, hv⟩ := Option.isSome_iff_exists.1 (h.sn.t 0 (by have := h.fine.nn; omega)).1
    exact World.block_lt_of_cell? w _ hv
  have e2 : bl < w.heap.size := by
    obtain ⟨v, hv⟩ := Option.isSome_iff_exists.1 (h.sl.t 0 (by omega)).1
    exact World.block_lt_of_cell? w _ hv
  simp only [blk, List.mem_cons] at ht
  rcases ht with rfl | rfl | rfl | ht
  · exact h.hb
  · exact e1
  · exact e2
  · exact (h.rw.o.lt t (by simpa using ht)).2

end Go.Proofs.Ytmklkdopmemfaaa
