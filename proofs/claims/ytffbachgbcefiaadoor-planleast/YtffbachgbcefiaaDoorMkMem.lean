/-
  Sets in memory: four words in a block of the call's own (A4), what a store leaves, and the value of a set (SV). Plain facts; conditions: what the cells hold.
-/
import Derived.Test.YtffbachgbcefiaaDoorMkBits
import Derived.Test.YtffbachgbcefiaaDoorRows
import Derived.WalkKit
import Derived.WalkSpells
import Derived.WalkLawsBesides
import Derived.Deep.RegionHeld3
import Derived.Deep.RegionWith
import Derived.Laws.NewBlocks
import Derived.Laws.Rows
import Derived.Laws.Tables
import Derived.Deep.WholeRow
namespace Go.Proofs.YtffbachgbcefiaaDoor
open Go.RowKit Plain

/-- four words. -/
def w4 (v : Nat → Nat) : Array Value := #[.int .u64 (v 0 : Nat), .int .u64 (v 1 : Nat), .int .u64 (v 2 : Nat), .int .u64 (v 3 : Nat)]
/-- a set as a value. -/
def SV (f : Nat → Bool) : Value := .agg #[.int .u64 (wd f 0 : Nat), .int .u64 (wd f 1 : Nat), .int .u64 (wd f 2 : Nat), .int .u64 (wd f 3 : Nat)]
theorem SV_congr {f g : Nat → Bool} (h : ∀ i, i < 256 → f i = g i) : SV f = SV g := by
  unfold SV
  rw [wd_congr f g h 0 (by omega), wd_congr f g h 1 (by omega), wd_congr f g h 2 (by omega), wd_congr f g h 3 (by omega)]
theorem w4_at (v : Nat → Nat) (j : Nat) (hj : j < 4) : (w4 v)[j]? = some (.int .u64 (v j : Nat)) := by
  have h : j = 0 ∨ j = 1 ∨ j = 2 ∨ j = 3 := by omega
  rcases h with rfl | rfl | rfl | rfl <;> rfl
theorem cell_off (w : World) (b o o' : Nat) (v : Value) (h : o' ≠ o) : (w.setCell ⟨b, o, none⟩ v).cell? ⟨b, o', none⟩ = w.cell? ⟨b, o', none⟩ :=
  World.cell?_setCell_other w ⟨b, o, none⟩ ⟨b, o', none⟩ v (fun hh => h (by have := congrArg Addr.off hh; simp at this; omega))
theorem cell_far (w : World) (b c o o' : Nat) (v : Value) (h : b ≠ c) : (w.setCell ⟨c, o, none⟩ v).cell? ⟨b, o', none⟩ = w.cell? ⟨b, o', none⟩ :=
  World.cell?_setCell_other w ⟨c, o, none⟩ ⟨b, o', none⟩ v (fun hh => h (by have := congrArg Addr.block hh; simp at this; omega))
theorem size_set (w : World) (a : Addr) (v : Value) : (w.setCell a v).heap.size = w.heap.size := by simp [World.setCell]

/-- four words at block b. -/
structure A4 (w : World) (b : Nat) (v : Nat → Nat) : Prop where
  lt : b < w.heap.size
  c : ∀ j, j < 4 → w.cell? ⟨b, j, none⟩ = some (.int .u64 (v j : Nat))
  z : ∀ o, w.frozen? ⟨b, o, none⟩ = false
theorem A4.new (w : World) (v : Nat → Nat) (t : TypeId) : A4 (w.alloc (.cells (w4 v) t)) w.heap.size v :=
  ⟨by simp, fun j hj => by rw [World.cell?_alloc_at _ _ _ _ rfl]; exact w4_at v j hj, fun o => by rw [frozen?_alloc_cells]; simp [World.frozen?]⟩
theorem A4.of_block {w w' : World} {b : Nat} {v : Nat → Nat} (h : A4 w b v) (hk : w'.heap[b]? = w.heap[b]?) (hs : w.heap.size ≤ w'.heap.size) : A4 w' b v :=
  ⟨Nat.lt_of_lt_of_le h.lt hs, fun j hj => (World.cell?_of_block (w := w) (a := ⟨b, j, none⟩) hk).trans (h.c j hj), fun o => (World.frozen?_of_block (w := w) (a := ⟨b, o, none⟩) hk).trans (h.z o)⟩
theorem A4.kept {w w' : World} {b : Nat} {v : Nat → Nat} (h : A4 w b v) (k : Kp w w') : A4 w' b v := h.of_block (k.block b h.lt) k.size
theorem A4.drew {w : World} {b : Nat} {v : Nat → Nat} (h : A4 w b v) : A4 w.drew b v := h.kept (Kp.refl w).drew
theorem A4.alloc {w : World} {b : Nat} {v : Nat → Nat} (h : A4 w b v) (o : Obj) : A4 (w.alloc o) b v := h.kept ((Kp.refl w).alloc o)
theorem A4.far {w : World} {b c : Nat} {v : Nat → Nat} (h : A4 w b v) (hb : b ≠ c) (o : Nat) (x : Value) : A4 (w.setCell ⟨c, o, none⟩ x) b v :=
  ⟨by rw [size_set]; exact h.lt, fun j hj => (cell_far _ _ _ _ _ _ hb).trans (h.c j hj), fun o' => (World.frozen?_setCell _ _ _ _).trans (h.z o')⟩
def upd (f : Nat → Nat) (k v i : Nat) : Nat := if i = k then v else f i
theorem A4.set {w : World} {b : Nat} {v : Nat → Nat} (h : A4 w b v) (k x : Nat) (hk : k < 4) : A4 (w.setCell ⟨b, k, none⟩ (.int .u64 (x : Nat))) b (upd v k x) := by
  refine ⟨by rw [size_set]; exact h.lt, fun j hj => ?_, fun o => (World.frozen?_setCell _ _ _ _).trans (h.z o)⟩
  unfold upd
  by_cases e : j = k
  · subst e; rw [if_pos rfl]; exact World.cell?_setCell_same _ _ _ (h.c j hj)
  · rw [if_neg e, cell_off _ _ _ _ _ e]; exact h.c j hj
theorem A4.congr {w : World} {b : Nat} {v u : Nat → Nat} (h : A4 w b v) (e : ∀ j, j < 4 → v j = u j) : A4 w b u := ⟨h.lt, fun j hj => by rw [← e j hj]; exact h.c j hj, h.z⟩
theorem Kp.set {a b : World} (h : Kp a b) {c : Nat} (hc : a.heap.size ≤ c) (o : Nat) (x : Value) : Kp a (b.setCell ⟨c, o, none⟩ x) := Below.setCell h (p := ⟨c, o, none⟩) hc x

/-- w behind a store of four words. -/
def put4 (w : World) (b : Nat) (v : Nat → Nat) : World := (((w.setCell ⟨b, 0, none⟩ (.int .u64 (v 0 : Nat))).setCell ⟨b, 1, none⟩ (.int .u64 (v 1 : Nat))).setCell ⟨b, 2, none⟩ (.int .u64 (v 2 : Nat))).setCell ⟨b, 3, none⟩ (.int .u64 (v 3 : Nat))
theorem A4.put {w : World} {b : Nat} {u : Nat → Nat} (h : A4 w b u) (v : Nat → Nat) : A4 (put4 w b v) b v := by
  refine ((((h.set 0 (v 0) (by omega)).set 1 (v 1) (by omega)).set 2 (v 2) (by omega)).set 3 (v 3) (by omega)).congr fun j hj => ?_
  have h : j = 0 ∨ j = 1 ∨ j = 2 ∨ j = 3 := by omega
  rcases h with rfl | rfl | rfl | rfl <;> rfl
theorem A4.putFar {w : World} {b c : Nat} {u : Nat → Nat} (h : A4 w b u) (hb : b ≠ c) (v : Nat → Nat) : A4 (put4 w c v) b u := (((h.far hb _ _).far hb _ _).far hb _ _).far hb _ _
theorem Kp.put4 {a b : World} (h : Kp a b) {c : Nat} (hc : a.heap.size ≤ c) (v : Nat → Nat) : Kp a (put4 b c v) := (((h.set hc _ _).set hc _ _).set hc _ _).set hc _ _
theorem load_a4 {P : Program} {w : World} {b : Nat} {v : Nat → Nat} (h : A4 w b v) (ty e : TypeId) (hu : P.underlying ty = some (.array 4 e)) (hi : (P.info? ty).map (·.size) = some 4) :
    (loadVar ty ⟨b, 0, none⟩).run P w = .ok (.agg (w4 v)) w := by
  have hl : (loadCells ⟨b, 0, none⟩ (w4 v).toList.length).run P w = .ok (w4 v).toList.toArray w :=
    run_loadCells_list (P := P) w ⟨b, 0, none⟩ (w4 v).toList (fun j x hx => by
      have hadd : (⟨b, 0, none⟩ : Addr).add j = ⟨b, j, none⟩ := by unfold Addr.add; split <;> simp_all
      have hj : j < 4 := by
        have := List.getElem?_eq_some_iff.1 hx
        obtain ⟨h1, _⟩ := this
        simpa [w4] using h1
      rw [hadd, h.c j hj]
      rw [Array.getElem?_toList, w4_at v j hj] at hx
      exact hx)
  cases hq : P.info? ty with
  | none => simp [hq] at hi
  | some i =>
    have hs : i.size = 4 := by simpa [hq] using hi
    have hagg : (isAgg ty).run P w = .ok true w := by
      unfold isAgg
      rw [Sem.run_bind, run_underlying hu w]
      rfl
    simp only [Array.length_toList, Array.toArray_toList] at hl
    have h4 : (w4 v).size = 4 := rfl
    rw [h4] at hl
    simp [loadVar, Sem.run_bind, hagg, sizeOf, typeInfo, hq, hs, hl]
theorem size_set' : (Tryd.prog.info? 28).map (·.size) = some 4 := by kernel_rfl
theorem size_words : (Tryd.prog.info? 27).map (·.size) = some 4 := by kernel_rfl
theorem results_set {fn : Func} {p : Tmp} (h : fn.results = #[.cell p 28]) (tmps : Array Value) (w : World) (b : Nat) (v : Nat → Nat) (hp : tmps.getD p undef = .pointer (some ⟨b, 0, none⟩)) (hA : A4 w b v) :
    (results fn tmps).run Tryd.prog w = .ok (.agg (w4 v)) w := by
  have hp' : tmps[p]?.getD undef = .pointer (some ⟨b, 0, none⟩) := by simpa using hp
  simp [results, h, hp', asAddr, load_a4 hA 28 _ Tryd.underlying28 size_set']
theorem results_words {fn : Func} {p : Tmp} (h : fn.results = #[.cell p 27]) (tmps : Array Value) (w : World) (b : Nat) (v : Nat → Nat) (hp : tmps.getD p undef = .pointer (some ⟨b, 0, none⟩)) (hA : A4 w b v) :
    (results fn tmps).run Tryd.prog w = .ok (.agg (w4 v)) w := by
  have hp' : tmps[p]?.getD undef = .pointer (some ⟨b, 0, none⟩) := by simpa using hp
  simp [results, h, hp', asAddr, load_a4 hA 27 _ Tryd.underlying27 size_words]

end Go.Proofs.YtffbachgbcefiaaDoor
