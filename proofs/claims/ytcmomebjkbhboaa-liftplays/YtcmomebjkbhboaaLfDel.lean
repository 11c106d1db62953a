/-
  Contract of slices.Delete at a row of keys that wait and one of them. Condition: that the row is the call's own.
-/
import Derived.Test.YtcmomebjkbhboaaLfInts
import Derived.Shelf.RegionOpenPlain
import Derived.WalkKit
import Derived.Deep.RegionLaw
import Derived.Lib.Walk
import Derived.Lib.SliceRun
import Derived.Laws.NewBlocks
namespace Go.Proofs.Ytcmomebjkbhboaa
open Go.RowKit Plain Go.Lib
set_option linter.unusedVariables false

def del (l : List Wt) (i : Nat) : List Wt := l.take i ++ l.drop (i + 1)
theorem del_len {l : List Wt} {i : Nat} (h : i < l.length) : (del l i).length = l.length - 1 := by
  unfold del
  simp only [List.length_append, List.length_take, List.length_drop]
  omega
/-- the cells of the row behind it. -/
theorem del_row {l : List Wt} {cs : List Value} {cap i : Nat} (hn : cs.length = cap * 2) (hi : i < l.length) (hc : l.length ≤ cap) (ht : cs.take (l.length * 2) = wv l) (Z : List Value) (hZ : Z.length = 2) :
    (pu (pu cs (i * 2) (wv (l.drop (i + 1)))) ((l.length - 1) * 2) Z).take ((l.length - 1) * 2) = wv (del l i) := by
  have e1 : cs = wv (l.take i) ++ cs.drop (i * 2) := by
    rw [← wv_take, ← ht, List.take_take, Nat.min_eq_left (by omega), List.take_append_drop]
  obtain ⟨B, hB⟩ : ∃ B, B = cs.drop (i * 2) := ⟨_, rfl⟩
  rw [← hB] at e1
  have hA : (wv (l.take i)).length = i * 2 := by rw [wv_len, List.length_take]; omega
  have hD : (wv (l.drop (i + 1))).length = (l.length - 1 - i) * 2 := by rw [wv_len, List.length_drop]; omega
  have hq : (wv (del l i)).length = (l.length - 1) * 2 := by rw [wv_len, del_len hi]
  rw [e1, pu_app _ _ _ _ hA, ← List.append_assoc, show wv (l.take i) ++ wv (l.drop (i + 1)) = wv (del l i) from by unfold del; rw [wv_app], pu_app _ _ _ _ hq, List.take_append_of_le_length (by omega), List.take_of_length_le (by omega)]

set_option maxHeartbeats 4000000 in
set_option maxRecDepth 100000 in
theorem del_walk (g n c i : Nat) (cs : List Value) (l : List Wt) (w : World) (hi : i < n) (hnc : n ≤ c) (hc63 : c ≤ 9223372036854775807) (hn : n = l.length)
    (R : Rr w g 53 c cs) (ht : cs.take (n * 2) = wv l) :
    Calls Try.prog 26 #[.slice (some ⟨g, 0, none⟩) n c, .int .i64 i, .int .i64 ((i : Int) + 1)] w fun e w' =>
      e = .returned (.slice (some ⟨g, 0, none⟩) (n - 1) c) ∧ w' = (w.drew.setCells g (i * 2) (wv (l.drop (i + 1)))).setCells g ((n - 1) * 2) (wv [wz]) := by
  obtain ⟨i0, hi0, hz0, hzs, hzb⟩ := info_parts elwQ.i
  obtain ⟨news, hnews⟩ : ∃ news, news = wv (l.drop (i + 1)) := ⟨_, rfl⟩
  have hlen : news.length = (n - 1 - i) * 2 := by rw [hnews, wv_len, List.length_drop]; omega
  obtain ⟨A, hA, hsrc⟩ : ∃ A : Addr, (if c = i + 1 then some (⟨g, 0, none⟩ : Addr) else some ⟨g, (i + 1) * 2, none⟩) = some A ∧ Hid (∀ t u, news[t]? = some u → w.drew.cell? (A.add t) = some u) := by
    by_cases h : c = i + 1
    · refine ⟨⟨g, 0, none⟩, by simp [h], fun t u hu => ?_⟩
      have h0 : news.length = 0 := by rw [hlen]; omega
      rw [List.length_eq_zero_iff.1 h0] at hu
      simp at hu
    · refine ⟨⟨g, (i + 1) * 2, none⟩, by simp [h], fun t u hu => ?_⟩
      rw [Addr.add_lit]
      have h1 : w.drew.cell? ⟨g, (i + 1) * 2 + t, none⟩ = cs[(i + 1) * 2 + t]? := R.cell _
      rw [h1]
      rw [hnews, ← wv_drop, List.getElem?_drop, ← ht, List.getElem?_take] at hu
      split at hu
      · exact hu
      · cases hu
  have s1 : Hid (news.length = (n - (i + 1)) * 2) := by show news.length = _; rw [hlen]; omega
  have s2 : Hid (∀ u ∈ news, u.oneCell' = true) := by show ∀ u ∈ news, _; rw [hnews]; exact wv_one _
  have s3 : Hid (∀ t, t < news.length → (w.drew.cell? ⟨g, 0 + i * 2 + t, none⟩).isSome = true ∧ w.drew.frozen? ⟨g, 0 + i * 2 + t, none⟩ = false) := fun t ht => ⟨R.drew.there _ (by omega), R.drew.frozen _⟩
  obtain ⟨W1, hW1⟩ : ∃ W1, W1 = w.drew.setCells g (0 + i * 2) news := ⟨_, rfl⟩
  have R1 : Rr W1 g 53 c (pu cs (0 + i * 2) news) := by rw [hW1]; exact Rr.sets _ g c _ _ _ _ R.drew (by omega)
  have hcl : ∀ ty, (Builtin.clear_ #[47] ty #[.slice (some ⟨g, (n - 1) * 2, none⟩) 1 (c - (n - 1))]).run Try.prog W1 = .ok (.tuple #[]) (W1.setCells g ((n - 1) * 2) (wv [wz])) :=
    fun ty => run_clear2 W1 _ 53 ty elwQ.u (elw_zero elwQ) g ((n - 1) * 2) _ (fun t ht => R1.there _ (by omega)) (fun t ht => R1.frozen _)
  have hW : Hid (W1 = w.drew.setCells g (0 + i * 2) news) := hW1
  have HN : Hid (news = wv (l.drop (i + 1))) := hnews
  have mixed : Try.prog.follows .mixedOrders = true := by kernel_rfl
  have hic : i ≤ c := by omega
  have hjc : i + 1 ≤ c := by omega
  have hjn : i + 1 ≤ n := by omega
  have hj0 : (0 : Int) ≤ (i : Int) + 1 := by omega
  have hj1 : (i : Int) + 1 ≤ (n : Int) := by omega
  have hw1 : ((i : Int) + 1).toNat = i + 1 := by omega
  have hw2 : i + (n - (i + 1)) = n - 1 := by omega
  have hw3 : n - (n - 1) = 1 := by omega
  have hne : ¬ ((i : Int) = (i : Int) + 1) := by omega
  have hcn : ¬ (c = n - 1) := by omega
  clear hW1 R1 R ht hlen hnews hn
  go_enter Try.func26, Try.ntmps26
  go_wp2_with fail
  go_region_law_o (refine step_append_room rfl (.tmp 22) (.tmp 25) 47 rfl 53 i0 2 elwQ.u hi0 hzs g 0 i c (by simp [Act.eval, Act.put]) A (n - (i + 1)) (c - (i + 1)) news (by simp [Act.eval, Act.put]) s1.out hsrc.out s2.out (by omega) s3.out ?_; rw [← hW.out])
  go_wp2
  go_ret
  refine ⟨rfl, ?_⟩
  rw [hW.out, HN.out, Nat.zero_add]

theorem delete_any (base : Nat) (v : Value) (l : List Wt) (i : Nat) (w : World) (ho : Ow w base 53 v l) (hi : i < l.length) :
    Calls Try.prog 26 #[v, .int .i64 i, .int .i64 ((i : Int) + 1)] w fun e w' => ∃ v', e = .returned v' ∧ Ow w' base 53 v' (del l i) ∧ Sp v.ownBlock.toList w w' ∧ v'.ownBlock = v.ownBlock := by
  rcases ho.row with ⟨rfl, rfl⟩ | ⟨g, cap, cs, rfl, hbg, R, hle, hcm, ht⟩
  · simp at hi
  · refine (del_walk g l.length cap i cs l w hi hle (by unfold maxLen at hcm; omega) rfl R ht).mono ?_
    rintro e w' ⟨rfl, rfl⟩
    have hd : (wv (l.drop (i + 1))).length = (l.length - (i + 1)) * 2 := by rw [wv_len, List.length_drop]
    have hx : (wv [wz]).length = 2 := wv_len _
    refine ⟨_, rfl, Ow.of (Rr.sets _ g cap _ _ _ _ (Rr.sets _ g cap _ _ _ _ R.drew (by omega)) (by omega)) hbg (by rw [del_len hi]; omega) hcm (by rw [del_len hi]; exact del_row R.n hi hle ht _ hx) _ (del_len hi).symm, ?_, rfl⟩
    exact Sp.setCells g (by simp [Value.ownBlock]) _ _ _ (Sp.setCells g (by simp [Value.ownBlock]) _ _ _ (((Kp.refl w).drew).sp _))

end Go.Proofs.Ytcmomebjkbhboaa
