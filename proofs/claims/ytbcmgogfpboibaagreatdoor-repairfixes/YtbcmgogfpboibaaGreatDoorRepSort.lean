/-
  Contracts of repair's Sort, kindOf, Kind's known: which kind the lost columns are, or the error, as the document words it. Conditions: that the list's cells hold the numbers.
-/
import Derived.Test.YtbcmgogfpboibaaGreatDoorRepDist
import Derived.WalkKit
namespace Go.Proofs.YtbcmgogfpboibaaGreatDoor
open Go.RowKit Plain

/-- the kind of at most two different columns: P and Q among them, two, one. -/
def kdB (p q two one : Bool) : Int := if p && q then 6 else if p && two then 4 else if q && two then 5 else if two then 7 else if p then 2 else if q then 3 else if one then 1 else 0
def kdG (d : Int) (g : List Int) : Int := kdB (g.contains d) (g.contains (d + 1)) (g.length == 2) (g.length == 1)
def inB (d : Int) (l : List Int) : Bool := l.all fun x => decide (0 ≤ x ∧ x < d + 2)
def srE (d : Int) (l : List Int) : Int := if d < 2 ∨ 30 < d then 3 else if inB d l = false then 3 else if 2 < (dst l).length then 20 else 0
def srK (d : Int) (l : List Int) : Int := if srE d l = 0 then kdG d (dst l) else 0

theorem IntsAt.slice {w : World} {B : Nat} {v : Value} {l : List Int} (h : IntsAt w B v l) : ∃ a cap, v = .slice a l.length cap := by
  cases h with
  | empty a cap h => exact ⟨a, cap, rfl⟩
  | some g cap l h0 h1 h2 hB hc => exact ⟨_, cap, rfl⟩
theorem contains_any (v : Value) (l : List Int) (x : Int) (B : Nat) (w : World) (h : IntsAt w B v l) : Calls Tryz.prog 37 #[v, .int .i64 x] w fun e w' => e = .returned (.bool (l.contains x)) ∧ w' = w := by
  cases h with
  | empty a cap h => exact Tryz.slices_Contains_int_empty a cap x w
  | some g cap l h0 h1 h2 hB hc =>
    have H := Tryz.slices_Contains_int g 0 l.length cap l x w (Nat.le_refl _) (by unfold maxLen at h2; omega) (fun j hj => by rw [Nat.zero_add]; exact hc j hj)
    rw [List.take_length] at H
    exact H

set_option maxRecDepth 100000 in
set_option maxHeartbeats 2000000 in
theorem kind_any (d : Int) (h1 : 0 ≤ d) (h2 : d ≤ 30) (v : Value) (l : List Int) (B : Nat) (w : World) (h : IntsAt w B v l) : Calls Tryz.prog 22 #[.int .i64 d, v] w fun e w' => e = .returned (.int .i64 (kdG d l)) ∧ w' = w := by
  have H := fun x => contains_any v l x B w h
  obtain ⟨a, cap, rfl⟩ := h.slice
  clear h
  unfold kdG
  have H1 := H d
  have H2 := H (d + 1)
  clear H
  obtain ⟨p, hp⟩ : ∃ p, p = l.contains d := ⟨_, rfl⟩
  obtain ⟨q, hq⟩ : ∃ q, q = l.contains (d + 1) := ⟨_, rfl⟩
  obtain ⟨n, hn⟩ : ∃ n, n = l.length := ⟨_, rfl⟩
  rw [← hp, ← hn] at H1
  rw [← hq, ← hn] at H2
  rw [← hp, ← hq, ← hn]
  clear hp hq hn
  have key : ∀ t o : Bool, ((n : Int) == 2) = t → ((n : Int) == 1) = o → (n == 2) = t → (n == 1) = o → Calls Tryz.prog 22 #[.int .i64 d, .slice a n cap] w fun e w' => e = .returned (.int .i64 (kdB p q (n == 2) (n == 1))) ∧ w' = w := by
    intro t o ht ho ht' ho'
    rw [ht', ho']
    clear ht' ho'
    cases p <;> cases q <;> cases t <;> cases o
    all_goals
      go_enter Tryz.func22, Tryz.ntmps22
      go_wp2_with fail
      refine H1.mono ?_; rintro e w1 ⟨rfl, rfl⟩
      go_wp2_with fail
      refine H2.mono ?_; rintro e w2 ⟨rfl, rfl⟩
      go_wp2
      go_ret
      exact ⟨rfl, rfl⟩
  have e2 : (n == 2) = ((n : Int) == 2) := by
    rw [Bool.eq_iff_iff]; simp; omega
  have e1 : (n == 1) = ((n : Int) == 1) := by
    rw [Bool.eq_iff_iff]; simp; omega
  exact key _ _ rfl rfl e2 e1

theorem sr_out {d : Int} (h : d < 2 ∨ 30 < d) (l : List Int) : srE d l = 3 ∧ srK d l = 0 := by
  have e : srE d l = 3 := by unfold srE; rw [if_pos h]
  exact ⟨e, by unfold srK; rw [e]; rfl⟩
theorem sr_not {d : Int} (h1 : 2 ≤ d) (h2 : d ≤ 30) {l : List Int} {j : Nat} (hj : j < l.length) (h : ¬ (0 ≤ l.getD j 0 ∧ l.getD j 0 < d + 2)) : srE d l = 3 ∧ srK d l = 0 := by
  have hb : inB d l = false := by
    unfold inB
    rw [Bool.eq_false_iff]
    intro ha
    have := List.all_eq_true.1 ha (l.getD j 0) (by rw [List.getD_eq_getElem?_getD, List.getElem?_eq_getElem hj]; simp)
    exact h (of_decide_eq_true this)
  have e : srE d l = 3 := by unfold srE; rw [if_neg (by omega), if_pos hb]
  exact ⟨e, by unfold srK; rw [e]; rfl⟩
theorem sr_in {d : Int} {l : List Int} (h : ∀ j, j < l.length → 0 ≤ l.getD j 0 ∧ l.getD j 0 < d + 2) : inB d l = true := by
  unfold inB
  refine List.all_eq_true.2 fun x hx => ?_
  obtain ⟨j, hj, rfl⟩ := List.mem_iff_getElem.1 hx
  have := h j hj
  rw [List.getD_eq_getElem?_getD, List.getElem?_eq_getElem hj] at this
  exact decide_eq_true this
theorem sr_many {d : Int} (h1 : 2 ≤ d) (h2 : d ≤ 30) {l : List Int} (h : inB d l = true) (hm : 2 < (dst l).length) : srE d l = 20 ∧ srK d l = 0 := by
  have e : srE d l = 20 := by unfold srE; rw [if_neg (by omega), h, if_neg (by simp), if_pos hm]
  exact ⟨e, by unfold srK; rw [e]; rfl⟩
theorem sr_ok {d : Int} (h1 : 2 ≤ d) (h2 : d ≤ 30) {l : List Int} (h : inB d l = true) (hm : ¬ 2 < (dst l).length) : srE d l = 0 ∧ srK d l = kdG d (dst l) := by
  have e : srE d l = 0 := by unfold srE; rw [if_neg (by omega), h, if_neg (by simp), if_neg hm]
  exact ⟨e, by unfold srK; rw [e]; rfl⟩

set_option maxRecDepth 100000 in
set_option maxHeartbeats 2000000 in
theorem sort_any (d : Int) (v : Value) (l : List Int) (hl : l.length * 8 ≤ 140737488355328) (w : World) (h : IntsIn w v l) :
    Calls Tryz.prog 9 #[.int .i64 d, v] w fun e w' => e = .returned (.tuple #[.int .i64 (srK d l), .int .i64 (srE d l)]) ∧ Kp w w' := by
  by_cases ho : d < 2
  · obtain ⟨e1, e2⟩ := sr_out (.inl ho) l
    rw [e1, e2]
    clear e1 e2
    go_enter Tryz.func9, Tryz.ntmps9
    go_wp2
    go_ret2
    exact ⟨rfl, Kp.refl _⟩
  by_cases ho2 : 30 < d
  · obtain ⟨e1, e2⟩ := sr_out (.inr ho2) l
    rw [e1, e2]
    have ho' : 2 ≤ d := by omega
    clear e1 e2 ho
    go_enter Tryz.func9, Tryz.ntmps9
    go_wp2
    go_ret2
    exact ⟨rfl, Kp.refl _⟩
  have hd1 : 2 ≤ d := by omega
  have hd2 : d ≤ 30 := by omega
  clear ho ho2
  have HD := distinct_any v l hl w h
  have key : ∀ (a : Option Addr) (b off cap : Nat), v = .slice a l.length cap → (0 < l.length → a = some ⟨b, off, none⟩) → (∀ j, j < l.length → w.cell? ⟨b, off + j, none⟩ = some (.int .i64 (l.getD j 0))) →
      Calls Tryz.prog 9 #[.int .i64 d, v] w fun e w' => e = .returned (.tuple #[.int .i64 (srK d l), .int .i64 (srE d l)]) ∧ Kp w w' := by
    rintro a b off cap rfl ha hc
    clear h
    go_enter Tryz.func9, Tryz.ntmps9
    go_wp2
    go_loop [17] (fun i => ∃ k : Nat, k ≤ l.length ∧ i = .int .i64 k ∧ ∀ j, j < k → 0 ≤ l.getD j 0 ∧ l.getD j 0 < d + 2) (fun i => l.length - (intOf i).toNat)
    case atStart => exact ⟨0, Nat.zero_le _, rfl, fun j hj => absurd hj (by omega)⟩
    case round =>
      obtain ⟨k, hk, rfl, hA⟩ := hrel
      have HA : Hid (∀ j, j < k → 0 ≤ l.getD j 0 ∧ l.getD j 0 < d + 2) := hA
      clear hA
      by_cases hlt : k < l.length
      · obtain rfl := ha (by omega)
        have hck := hc k hlt
        have HN : Hid (¬ (0 ≤ l.getD k 0 ∧ l.getD k 0 < d + 2) → srE d l = 3 ∧ srK d l = 0) := sr_not hd1 hd2 hlt
        have HX : Hid (∀ j, j < k + 1 → j = k ∨ j < k) := fun j hj => by omega
        obtain ⟨x, hx⟩ : ∃ x, x = l.getD k 0 := ⟨_, rfl⟩
        have HE : Hid (x = l.getD k 0) := hx
        rw [← hx] at hck HN
        clear hx hc ha HD
        by_cases hx0 : x < 0
        · go_wp2
          go_ret2
          obtain ⟨e1, e2⟩ := HN.out (by omega)
          exact ⟨by rw [e1, e2]; rfl, Kp.refl _⟩
        · by_cases hx1 : d + 2 ≤ x
          · have hx0' : 0 ≤ x := by omega
            clear hx0
            go_wp2
            go_ret2
            obtain ⟨e1, e2⟩ := HN.out (by omega)
            exact ⟨by rw [e1, e2]; rfl, Kp.refl _⟩
          · have hx0' : 0 ≤ x := by omega
            have hx1' : x < d + 2 := by omega
            clear hx0 hx1
            go_wp2
            go_round
            case rel =>
              refine ⟨k + 1, by omega, by go_num, fun j hj => ?_⟩
              rcases HX.out j hj with rfl | h'
              · rw [← HE.out]; exact ⟨hx0', hx1'⟩
              · exact HA.out j h'
            case measure => simp [intOf]; omega
      · obtain rfl : k = l.length := by omega
        have hin := sr_in HA.out
        have HM : Hid (2 < (dst l).length → srE d l = 20 ∧ srK d l = 0) := sr_many hd1 hd2 hin
        have HO : Hid (¬ 2 < (dst l).length → srE d l = 0 ∧ srK d l = kdG d (dst l)) := sr_ok hd1 hd2 hin
        clear HA hin hc ha
        go_wp2_with fail
        refine HD.mono ?_; rintro e w1 ⟨v', rfl, hI, k1⟩
        clear HD
        obtain ⟨a', cap', rfl⟩ := hI.slice
        have HK := kind_any d (by omega) hd2 _ _ _ _ hI
        obtain ⟨G, hG⟩ : ∃ G, G = dst l := ⟨_, rfl⟩
        rw [← hG] at HM HO HK hI ⊢
        clear hI hG
        obtain ⟨n, hn⟩ : ∃ n, n = G.length := ⟨_, rfl⟩
        rw [← hn] at HM HO HK ⊢
        clear hn
        by_cases hm : 2 < n
        · clear HK HO
          go_wp2
          go_ret2
          obtain ⟨e1, e2⟩ := HM.out hm
          exact ⟨by rw [e1, e2]; rfl, k1⟩
        · go_wp2_with fail
          refine HK.mono ?_; rintro e w2 ⟨rfl, rfl⟩
          go_wp2
          go_ret2
          obtain ⟨e1, e2⟩ := HO.out hm
          exact ⟨by rw [e1, e2]; rfl, k1⟩
  cases h with
  | empty a cap h => exact key a 0 0 cap rfl (fun h => absurd h (by simp)) (fun j hj => absurd hj (by simp))
  | some b off cap l h0 h1 h2 hc => exact key _ b off cap rfl (fun _ => rfl) hc

end Go.Proofs.YtbcmgogfpboibaaGreatDoor
