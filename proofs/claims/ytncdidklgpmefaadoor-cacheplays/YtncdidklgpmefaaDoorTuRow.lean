/-
  A turn in memory (TB, TX), and contracts of slices.Index, slices.Contains, of a row's add and take. Conditions: that the row and the object lie in memory as told.
-/
import Derived.Test.YtncdidklgpmefaaDoorTuMap
import Derived.Deep.LoopGhost
import Derived.Shelf.Abstract
import Derived.WalkKit
namespace Go.Proofs.YtncdidklgpmefaaDoor
open Go.RowKit Plain
set_option linter.unusedVariables false

/-- where the number stands first. -/
def Fx (l : List Int) (b : Int) (z : Int) : Prop := (z = -1 ∧ b ∉ l) ∨ ∃ A B, l = A ++ b :: B ∧ z = (A.length : Int) ∧ b ∉ A
theorem at_split {l : List Int} {i : Nat} (h : i < l.length) : l = l.take i ++ l.getD i 0 :: l.drop (i + 1) := by
  rw [List.getD_eq_getElem?_getD, List.getElem?_eq_getElem h, Option.getD_some, ← List.drop_eq_getElem_cons h, List.take_append_drop]
theorem take_next {l : List Int} {i : Nat} (h : i < l.length) : l.take (i + 1) = l.take i ++ [l.getD i 0] := by
  rw [List.take_add_one, List.getElem?_eq_getElem h, List.getD_eq_getElem?_getD, List.getElem?_eq_getElem h]
  rfl
set_option maxRecDepth 100000 in
set_option maxHeartbeats 2000000 in
theorem index_any (v : Value) (l : List Int) (c : Int) (w : World) (hI : InI w v l) (hl : l.length ≤ 1000) :
    Calls Tryd.prog 65 #[v, .int .i64 c] w fun e w' => ∃ z, e = .returned (.int .i64 z) ∧ Fx l c z ∧ w' = w := by
  obtain ⟨p, g, cap, rfl, h1, h2, hp, _, hc⟩ := hI
  obtain ⟨n, hn⟩ : ∃ n, n = l.length := ⟨_, rfl⟩
  rw [← hn] at hp hl hc h1 ⊢
  have HN := hid hn
  have HC := hid hc
  have HP := hid hp
  clear hn hc hp
  go_enter Tryd.func65, Tryd.ntmps65
  go_wp2
  go_loopw [5, 8] (fun _ q wr => ∃ i : Nat, q = .int .i64 i ∧ i ≤ n ∧ Hid (c ∉ l.take i) ∧ wr = w) (fun _ q _ => n - (intOf q).toNat)
  case atStart => exact ⟨0, rfl, by omega, (by simp : c ∉ l.take 0), rfl⟩
  case round =>
    obtain ⟨i, rfl, hi, HI, hw⟩ := hrel
    rw [hw]
    clear hw
    by_cases hin : i < n
    · obtain rfl := HP.out (by omega)
      have d0 := HC.out i hin
      have hil : i < l.length := by have := HN.out; omega
      obtain ⟨y, hy⟩ : ∃ y, y = l.getD i 0 := ⟨_, rfl⟩
      rw [← hy] at d0
      have HY := hid hy
      have hi3 : (i : Int) < (n : Int) := by omega
      clear hy
      by_cases hyb : c = y
      · have hd2 : (c == y) = true := by simp [hyb]
        have HYB := hid hyb
        clear hyb
        go_wp2
        go_ret
        refine ⟨_, rfl, .inr ⟨l.take i, l.drop (i + 1), ?_, by rw [List.length_take, Nat.min_eq_left (by omega)], HI.out⟩, rfl⟩
        rw [HYB.out, HY.out]
        exact at_split hil
      · have hd2 : (c == y) = false := by simp [hyb]
        have HI2 : Hid (c ∉ l.take (i + 1)) := by
          show c ∉ l.take (i + 1)
          rw [take_next hil, List.mem_append]
          rintro (hx | hx)
          · exact HI.out hx
          · simp at hx
            exact hyb (by rw [HY.out, hx]; simp [List.getD_eq_getElem?_getD])
        go_wp2
        go_roundw
        case rel => exact ⟨i + 1, by go_num, by omega, HI2, trivial⟩
        case measure => simp [intOf]; omega
    · obtain rfl : i = n := by omega
      go_wp2
      go_ret
      exact ⟨_, rfl, .inl ⟨rfl, by have := HI.out; rwa [List.take_of_length_le (by have := HN.out; omega)] at this⟩, rfl⟩
set_option maxRecDepth 100000 in
theorem contains_any (v : Value) (l : List Int) (c : Int) (w : World) (hI : InI w v l) (hl : l.length ≤ 1000) :
    Calls Tryd.prog 71 #[v, .int .i64 c] w fun e w' => e = .returned (.bool (decide (c ∈ l))) ∧ w' = w := by
  have hF := index_any v l c w hI hl
  obtain ⟨p, g, cap, rfl, _⟩ := hI
  go_enter Tryd.func71, Tryd.ntmps71
  go_wp2_with fail
  refine hF.mono ?_; rintro e w1 ⟨z, rfl, hz, rfl⟩
  have HZ : Hid (decide (0 ≤ z) = decide (c ∈ l)) := by
    show decide (0 ≤ z) = decide (c ∈ l)
    rcases hz with ⟨rfl, h⟩ | ⟨A, B, rfl, rfl, h⟩
    · rw [decide_eq_false h]; rfl
    · rw [decide_eq_true (by simp : c ∈ A ++ c :: B)]; exact decide_eq_true (by omega)
  clear hz hF
  go_wp2
  go_ret
  exact ⟨by rw [← HZ.out]; rfl, rfl⟩

/-! ### a row's add and take -/
theorem erase_del {l : List Int} {b : Int} {A B : List Int} (e : l = A ++ b :: B) (h : b ∉ A) : l.erase b = del l A.length := by
  subst e
  unfold del
  rw [List.erase_append_right _ h, List.erase_cons_head, List.take_left, ← List.drop_drop, List.drop_left]
  rfl
set_option maxRecDepth 100000 in
set_option maxHeartbeats 2000000 in
theorem rowadd_any {w : World} {base a o : Nat} {cs : Array Value} {t : TypeId} {v : Value} {l : List Int} (h : w.heap[a]? = some (.cells cs t (0, 0))) (hv : cs[o]? = some v) (ho : OwnI w base v l) (hb : v.ownBlock ≠ some a) (hs : base ≤ w.heap.size) (hl : l.length ≤ 1000) (k : Int) :
    Calls Tryd.prog 49 #[.pointer (some ⟨a, o, none⟩), .int .i64 k] w fun e w' => e = .returned (.tuple #[]) ∧ ∃ v' w2, w' = w2.setCell ⟨a, o, none⟩ v' ∧ OwnI w2 base v' (l ++ [k]) ∧ Sp v.ownBlock.toList w w2 ∧ (v'.ownBlock = v.ownBlock ∨ ∀ N, v'.ownBlock = some N → w.heap.size ≤ N) := by
  have c0 : w.cell? ⟨a, o, none⟩ = some v := by rw [cell_of h, hv]
  have HH : Hid (w.heap[a]? = some (.cells cs t (0, 0)) ∧ cs[o]? = some v ∧ OwnI w base v l ∧ v.ownBlock ≠ some a ∧ base ≤ w.heap.size ∧ l.length ≤ 1000) := ⟨h, hv, ho, hb, hs, hl⟩
  obtain ⟨pv, nv', cv, hvs⟩ := ho.slc
  rw [hvs] at c0
  have HV := hid hvs
  clear h hv ho hb hs hl hvs
  go_enter Tryd.func49, Tryd.ntmps49
  go_wp2_with (at_builtin; refine wpList_append_nums rfl _ _ 97 rfl Tryd.underlying97 base v l (by rw [HV.out]; rfl) (HH.out.2.2.1.kept ((Kp.refl w).alloc _)) _ [k] rfl (InI.one w k _ _ rfl) ?c1 ?c2 ?_; rotate_left; rotate_left; intro v' w2 ho2 hg2 hr2; obtain ⟨p', n', c', rfl⟩ := ho2.slc; have hs2 := ((Kp.refl w).alloc (.cells #[.int .i64 k] 3)).sp v.ownBlock.toList |>.trans (grown_sp hg2); have hh2 := (hs2.block a (heap_lt HH.out.1) (fun e => HH.out.2.2.2.1 (by simpa using e))).trans HH.out.1; have d0 : w2.cell? ⟨a, o, none⟩ = some (.slice pv nv' cv) := (by rw [cell_of hh2, HH.out.2.1, HV.out]); have d1 := frozen_of hh2 o; have HE := hid (And.intro ho2 (And.intro hs2 hr2)); clear ho2 hg2 hr2 hs2 hh2)
  case c1 => have := HH.out.2.2.2.2.2; simp; omega
  case c2 => have := HH.out.2.2.2.2.1; simp; omega
  go_end0
  refine ⟨rfl, _, _, rfl, HE.out.1, HE.out.2.1, HE.out.2.2.elim .inl (fun h => .inr (fun N hN => by rw [h] at hN; cases hN; simp))⟩
set_option maxRecDepth 100000 in
theorem rowtake_miss {w : World} {base a o : Nat} {cs : Array Value} {t : TypeId} {v : Value} {l : List Int} (h : w.heap[a]? = some (.cells cs t (0, 0))) (hv : cs[o]? = some v) (ho : OwnI w base v l) (hl : l.length ≤ 1000) (k : Int) (hk : k ∉ l) :
    Calls Tryd.prog 50 #[.pointer (some ⟨a, o, none⟩), .int .i64 k] w fun e w' => e = .returned (.bool false) ∧ w' = w := by
  have c0 : w.cell? ⟨a, o, none⟩ = some v := by rw [cell_of h, hv]
  have hF := index_any v l k w ho.ints hl
  obtain ⟨pv, nv', cv, rfl⟩ := ho.slc
  have HK := hid hk
  clear h hv ho hk
  go_enter Tryd.func50, Tryd.ntmps50
  go_wp2_with fail
  refine hF.mono ?_; rintro e w1 ⟨z, rfl, hz, rfl⟩
  obtain rfl : z = -1 := by
    rcases hz with ⟨h, _⟩ | ⟨A, B, e, _⟩
    · exact h
    · exact absurd (by rw [e]; simp) HK.out
  clear hz hF
  go_wp2
  go_ret
  exact ⟨rfl, rfl⟩
set_option maxRecDepth 100000 in
set_option maxHeartbeats 2000000 in
theorem rowtake_hit {w : World} {base a o : Nat} {cs : Array Value} {t : TypeId} {v : Value} {l : List Int} (h : w.heap[a]? = some (.cells cs t (0, 0))) (hv : cs[o]? = some v) (ho : OwnI w base v l) (hb : v.ownBlock ≠ some a) (hl : l.length ≤ 1000) (k : Int) (hk : k ∈ l) :
    Calls Tryd.prog 50 #[.pointer (some ⟨a, o, none⟩), .int .i64 k] w fun e w' => e = .returned (.bool true) ∧ ∃ v' w2, w' = w2.setCell ⟨a, o, none⟩ v' ∧ OwnI w2 base v' (l.erase k) ∧ Sp v.ownBlock.toList w w2 ∧ v'.ownBlock = v.ownBlock := by
  have c0 : w.cell? ⟨a, o, none⟩ = some v := by rw [cell_of h, hv]
  have hF := index_any v l k w ho.ints hl
  have HH : Hid (w.heap[a]? = some (.cells cs t (0, 0)) ∧ cs[o]? = some v ∧ OwnI w base v l ∧ v.ownBlock ≠ some a) := ⟨h, hv, ho, hb⟩
  have HV := hid (rfl : v = v)
  obtain ⟨pv, nv', cv, hvs⟩ := ho.slc
  have hD := fun i hi => delete_any base v l i w ho hi
  subst hvs
  have HK := hid hk
  clear h hv ho hk hb HV
  go_enter Tryd.func50, Tryd.ntmps50
  go_wp2_with fail
  refine hF.mono ?_; rintro e w1 ⟨z, rfl, hz, rfl⟩
  obtain ⟨A, B, e1, rfl, hA⟩ : ∃ A B, l = A ++ k :: B ∧ z = (A.length : Int) ∧ k ∉ A := by
    rcases hz with ⟨_, h⟩ | h
    · exact absurd HK.out h
    · exact h
  have hi : A.length < l.length := by rw [e1]; simp
  have hD1 := hD A.length hi
  rw [← erase_del e1 hA] at hD1
  obtain ⟨i, hi2⟩ : ∃ i, i = A.length := ⟨_, rfl⟩
  rw [← hi2] at hD1 hi ⊢
  have hb1 : (i : Int) ≤ 1000 := by omega
  clear hF hD e1 hA hi2 hz
  go_wp2_with fail
  refine hD1.mono ?_; rintro e w2 ⟨v', rfl, ho2, hs2, hr2⟩
  obtain ⟨p', n', c', rfl⟩ := ho2.slc
  have hh2 := (hs2.block a (heap_lt HH.out.1) (fun e => HH.out.2.2.2 (by simpa using e))).trans HH.out.1
  have d0 : w2.cell? ⟨a, o, none⟩ = some (.slice pv nv' cv) := by rw [cell_of hh2, HH.out.2.1]
  have d1 := frozen_of hh2 o
  have HE := hid (And.intro ho2 (And.intro hs2 hr2))
  clear ho2 hs2 hr2 hh2 hD1
  go_wp2
  go_ret
  exact ⟨rfl, _, _, rfl, HE.out.1, HE.out.2.1, HE.out.2.2⟩

end Go.Proofs.YtncdidklgpmefaaDoor
