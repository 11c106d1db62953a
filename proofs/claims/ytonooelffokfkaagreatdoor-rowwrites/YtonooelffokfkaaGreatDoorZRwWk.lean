/-
  maps.Keys and slices.Sorted at a map of texts: its keys, rising. Condition: that the map lies in memory.
-/
import Derived.Test.YtonooelffokfkaaGreatDoorZRwWp
import Derived.Test.YtonooelffokfkaaGreatDoorZShelf
import Derived.Test.YtonooelffokfkaaGreatDoorZShelfK
namespace Go.Proofs.YtonooelffokfkaaGreatDoor
open Go.RowKit Plain Go.Maps Go.WideMaps Go.Sort Go.Shelf
set_option linter.unusedVariables false

/-- the keys of f, rising, c of them. -/
def Sk (f : Int → Option ByteArray) (c : Nat) (ks : List Int) : Prop := ks.Pairwise (· < ·) ∧ ks.length = c ∧ ∀ x, x ∈ ks ↔ (iOk x ∧ (f x).isSome = true)
def csL (f : Int → Option ByteArray) (ks : List Int) : List CB := ks.map fun k => (k, (f k).getD noS)
theorem csL_len (f : Int → Option ByteArray) (ks : List Int) : (csL f ks).length = ks.length := by unfold csL; simp
theorem csL_at (f : Int → Option ByteArray) (ks : List Int) {k : Nat} (h : k < ks.length) : (csL f ks).getD k noC = (ks.getD k 0, (f (ks.getD k 0)).getD noS) := by
  unfold csL
  simp [List.getD_eq_getElem?_getD, h]
theorem sk_of {f : Int → Option ByteArray} {c : Nat} {ss ks : List Int} (h1 : ks.Nodup) (h2 : ks.length = c) (h3 : ∀ x, x ∈ ks ↔ (iOk x ∧ (f x).isSome = true)) (hp : ss.Perm ks) : Sk f c (ss.mergeSort fun x y => decide (x ≤ y)) := by
  have hq := (List.mergeSort_perm ss fun x y => decide (x ≤ y)).trans hp
  have tr : ∀ a b c : Int, decide (a ≤ b) = true → decide (b ≤ c) = true → decide (a ≤ c) = true := fun a b c h1 h2 => by simp only [decide_eq_true_eq] at *; omega
  have tot : ∀ a b : Int, (decide (a ≤ b) || decide (b ≤ a)) = true := fun a b => by simp only [Bool.or_eq_true, decide_eq_true_eq]; omega
  have hs := List.pairwise_mergeSort (le := fun x y : Int => decide (x ≤ y)) tr tot ss
  have hn : (ss.mergeSort fun x y => decide (x ≤ y)).Nodup := hq.nodup_iff.2 h1
  refine ⟨?_, by rw [hq.length_eq, h2], fun x => by rw [hq.mem_iff, h3]⟩
  have := List.Pairwise.and hs hn
  exact this.imp fun {a b} h => by
    have h1 := h.1
    have h2 := h.2
    simp only [decide_eq_true_eq] at h1
    omega
theorem MpS.some_keys {w : World} {b n c : Nat} {f : Int → Option ByteArray} {D : DataW Unit} (h : MpS w b n c f D) : ∃ ks, Sk f c ks := by
  obtain ⟨h1, h2, h3⟩ := h.keys
  exact ⟨_, sk_of h1 h2 h3 (List.Perm.refl _)⟩
theorem sk_same {f : Int → Option ByteArray} {c c' : Nat} {ks ls : List Int} (h : Sk f c ks) (h' : Sk f c' ls) : ks = ls := by
  have hk : ks.Nodup := h.1.imp fun {a b} h => by omega
  have hl : ls.Nodup := h'.1.imp fun {a b} h => by omega
  have hp : ks.Perm ls := (List.perm_ext_iff_of_nodup hk hl).2 fun x => by rw [h.2.2, h'.2.2]
  exact List.Perm.eq_of_pairwise (le := fun a b => a < b) (fun a b _ _ h1 h2 => by omega) h.1 h'.1 hp

theorem sortsA (m : Nat) : AnyZI.SortsIn Tryz.prog Tryz.sortedA_ren Fence.wide m :=
  ⟨fun blk off cap ss W hH hblk hsz => callsIn_wide.2 (Tryz.slices_Sort_int blk off cap ss W hH hblk hsz),
   fun p cap W => callsIn_wide.2 (Tryz.slices_Sort_int_none p cap W)⟩
theorem keys_any (mb : Option Nat) (W : World) : Calls Tryz.prog 75 #[.map mb] W fun e w' => e = .returned (.func (.func 130) #[] #[.pointer (some ⟨W.heap.size, 0, none⟩)]) ∧ w' = W.alloc (.cells #[.map mb] 86) :=
  (callsIn_wide (n := 5)).1 (AnyZI.keys_in Tryz.keysA Fence.wide 5 trivial rfl mb W)
theorem sort_keys {w : World} {b n c : Nat} {f : Int → Option ByteArray} {D : DataW Unit} (h : MpS w b n c f D) (hc : c ≤ 1000) : Calls Tryz.prog 74 #[.func (.func 130) #[] #[.pointer (some ⟨w.heap.size, 0, none⟩)]] (w.alloc (.cells #[.map (some b)] 86)) fun e w' => ∃ v ks, e = .returned v ∧ InI w' v ks ∧ Sk f c ks ∧ Kp w w' := by
  have hbl := h.lt
  have hsz := h.sz
  have hseq : SeqGives Fence.wide 2 Tryz.prog 130 #[.pointer (some ⟨w.heap.size, 0, none⟩)] encZ (fun ss => ss.Perm (intKeys D)) (Maps.size D) (w.alloc (.cells #[.map (some b)] 86)) :=
    AnyZI.keys_gives (ρ := Tryz.keysA_ren) { Tryz.keysA with } Fence.wide _ trivial rfl (by omega) w.heap.size b n D _ (by simp) (by simp) (by
      obtain ⟨es, clock, hb, Ft, hs, hD⟩ := h.own
      exact ⟨es, clock, (Below.heap_alloc _ _ b hbl).trans hb, Ft, hs, hD⟩)
  have cS := AnyZI.sorted_in Tryz.sortedA Fence.wide 5 trivial trivial trivial trivial rfl (by omega) (sortsA _) (enters_of Tryz.func129 (by kernel_rfl) rfl) 130 #[.pointer (some ⟨w.heap.size, 0, none⟩)] trivial (enters_of Tryz.func130 (by kernel_rfl) rfl) _ _ (by unfold maxLen; omega) (by omega) _ hseq
  change CallsIn _ _ Tryz.prog 74 _ _ _ at cS
  refine ((callsIn_wide (n := 5)).1 cS).mono ?_
  rintro e w' ⟨v, ss, rfl, hS, hrow, hnil, hb⟩
  obtain ⟨h1, h2, h3⟩ := h.keys
  have hO : OwnI w' (w.alloc (.cells #[.map (some b)] 86)).heap.size v (ss.mergeSort fun x y => decide (x ≤ y)) := by
    unfold OwnI
    rw [List.length_mergeSort]
    exact hrow
  exact ⟨v, _, rfl, hO.ints, sk_of h1 h2 h3 hS, ((Kp.refl w).alloc _).trans hb⟩

end Go.Proofs.YtonooelffokfkaaGreatDoor
