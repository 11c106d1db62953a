/-
  What layer 4's laws have in common: the lowest five bits of a number. No condition.
-/
import Derived.Test.YtbcmgogfpboibaaGreatDoorSynRef
import Derived.Test.YtbcmgogfpboibaaGreatDoorSynBytes
namespace Go.Proofs.YtbcmgogfpboibaaGreatDoor
open Go.RowKit Plain

theorem mask31 (n : Int) : bits .and .i64 n 31 = n % 32 := by
  have h : (BitVec.ofInt 64 31).toNat = 2 ^ 5 - 1 := by decide
  have key : (BitVec.ofInt 64 n &&& BitVec.ofInt 64 31).toNat = (n % ((2 ^ 64 : Nat) : Int)).toNat % 2 ^ 5 := by
    rw [BitVec.toNat_and, BitVec.toNat_ofInt, h, Nat.and_two_pow_sub_one_eq_mod]
  show IntKind.i64.wrap ((BitVec.ofInt 64 n &&& BitVec.ofInt 64 31).toNat : Nat) = n % 32
  rw [key, IntKind.wrap_i64]
  omega

theorem StrsIn.four {w : World} {v : Value} {A B C D : ByteArray} (h : StrsIn w v [A, B, C, D]) : ∃ b off cap, v = .slice (Option.some ⟨b, off, none⟩) 4 cap ∧ 4 ≤ cap ∧ cap ≤ 9223372036854775807 ∧ w.cell? ⟨b, off, none⟩ = Option.some (.string A) ∧ w.cell? ⟨b, off + 1, none⟩ = Option.some (.string B) ∧ w.cell? ⟨b, off + 2, none⟩ = Option.some (.string C) ∧ w.cell? ⟨b, off + 3, none⟩ = Option.some (.string D) := by
  obtain ⟨l, hl⟩ : ∃ l, l = [A, B, C, D] := ⟨_, rfl⟩
  rw [← hl] at h
  cases h with
  | empty a cap h => cases hl
  | some b off cap l h0 h1 h2 hc =>
    subst hl
    exact ⟨b, off, cap, rfl, h1, by unfold maxLen at h2; omega, hc 0 (by simp), hc 1 (by simp), hc 2 (by simp), hc 3 (by simp)⟩

/-- block B holds the cells cs, none of them frozen. -/
def Laid (W : World) (B : Nat) (t : TypeId) (cs : Array Value) : Prop := W.heap[B]? = some (.cells cs t (0, 0))
theorem Laid.new (W : World) (t : TypeId) (cs : Array Value) : Laid (W.alloc (.cells cs t)) W.heap.size t cs := World.alloc_heap_new W _
theorem Laid.lt {W : World} {B : Nat} {t : TypeId} {cs : Array Value} (h : Laid W B t cs) : B < W.heap.size := (Array.getElem?_eq_some_iff.1 h).1
theorem Laid.cell {W : World} {B : Nat} {t : TypeId} {cs : Array Value} (h : Laid W B t cs) (i : Nat) : W.cell? ⟨B, i, none⟩ = cs[i]? := by simp [World.cell?, show W.heap[B]? = _ from h]
theorem Laid.frozen {W : World} {B : Nat} {t : TypeId} {cs : Array Value} (h : Laid W B t cs) (i : Nat) : W.frozen? ⟨B, i, none⟩ = false := by simp [World.frozen?, show W.heap[B]? = _ from h]
theorem Laid.kept {W W' : World} {B : Nat} {t : TypeId} {cs : Array Value} (h : Laid W B t cs) (k : Kp W W') : Laid W' B t cs := (k.block B h.lt).trans h
theorem Laid.set {W : World} {B : Nat} {t : TypeId} {cs : Array Value} (h : Laid W B t cs) (i : Nat) (v : Value) : Laid (W.setCell ⟨B, i, none⟩ v) B t (cs.setIfInBounds i v) := by
  obtain ⟨hlt, hk⟩ := Array.getElem?_eq_some_iff.1 h
  show (W.heap.modify B _)[B]? = _
  rw [Array.getElem?_eq_getElem (by rw [Array.size_modify]; exact hlt), Array.getElem_modify_self, hk]
  rfl
/-- a cell of a block that is new may be turned. -/
theorem Kp.set {w W : World} (h : Kp w W) (B i : Nat) (hB : w.heap.size ≤ B) (v : Value) : Kp w (W.setCell ⟨B, i, none⟩ v) := Below.setCell (p := ⟨B, i, none⟩) h hB v
theorem Kp.own {w w' : World} (k : Kp w w') {base : Nat} {e : TypeId} {size : Nat} {v : Value} {n : Nat} {xs : List Value} (h : w.ownsRow base e size v n xs) : w'.ownsRow base e size v n xs := by
  rcases h.2 with ⟨h', h0⟩ | ⟨g, cap, cur, h', hb, hg, hr⟩
  · exact ⟨h.1, .inl ⟨h', h0⟩⟩
  · exact ⟨h.1, .inr ⟨g, cap, cur, h', hb, (k.block g (Array.getElem?_eq_some_iff.1 hg).1).trans hg, hr⟩⟩

theorem own_at {w : World} {base g cp n : Nat} {e : TypeId} {M : List ByteArray} (h : w.ownsRow base e 1 (.slice (some ⟨g, 0, none⟩) n cp) n (M.map Value.string)) (hM : M.length = n) (j : Nat) (hj : j < n) : w.cell? ⟨g, j, none⟩ = some (.string (M.getD j noS)) := by
  rw [h.cellAt j (by omega), List.getElem?_map, List.getElem?_eq_getElem (by omega), List.getD_eq_getElem?_getD, List.getElem?_eq_getElem (by omega)]; rfl
theorem own_set {w : World} {base g cp n : Nat} {e : TypeId} {M : List ByteArray} (h : w.ownsRow base e 1 (.slice (some ⟨g, 0, none⟩) n cp) n (M.map Value.string)) (j : Nat) (t : ByteArray) :
    (w.setCell ⟨g, j, none⟩ (.string t)).ownsRow base e 1 (.slice (some ⟨g, 0, none⟩) n cp) n ((M.set j t).map Value.string) := by
  rw [List.map_set]; exact (h.stored j (.string t)).1
theorem fits_own {n : Nat} {M : List ByteArray} (h2 : 2 ≤ M.length) (h30 : M.length ≤ 30) (hn : n ≤ 60) (h : ∀ s ∈ M, s.size = n) : fitsB M (parS n M) (wgtS n M) = true := by
  obtain ⟨e0, e1, e2⟩ := mk_all h2 h30 (by omega) h
  unfold fitsB
  rw [e0, e1, e2]
  simp
theorem sizes_small {n : Nat} {M : List ByteArray} (hn : n ≤ 60) (h : ∀ s ∈ M, s.size = n) : ∀ i, i < M.length → (M.getD i noS).size ≤ maxLen := fun i hi => by
  rw [h _ (mem_of_at M i hi)]; unfold maxLen; omega

end Go.Proofs.YtbcmgogfpboibaaGreatDoor
