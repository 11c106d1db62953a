/-
  Contract of slices.Delete at a row of numbers and one of them. Condition: that the row is the call's own.
-/
import Derived.Test.YtncdidklgpmefaaDoorTuMem
import Derived.Shelf.RegionOpenPlain
import Derived.WalkKit
import Derived.Deep.RegionLaw
import Derived.Lib.Walk
import Derived.Laws.NewBlocks
namespace Go.Proofs.YtncdidklgpmefaaDoor
open Go.RowKit Plain Go.Lib
set_option linter.unusedVariables false

def del (l : List Int) (i : Nat) : List Int := l.take i ++ l.drop (i + 1)
theorem del_len {l : List Int} {i : Nat} (h : i < l.length) : (del l i).length = l.length - 1 := by
  unfold del
  simp only [List.length_append, List.length_take, List.length_drop]
  omega
theorem nv_take (l : List Int) (i : Nat) : (nv l).take i = nv (l.take i) := by unfold nv; rw [List.map_take]
theorem nv_drop (l : List Int) (i : Nat) : (nv l).drop i = nv (l.drop i) := by unfold nv; rw [List.map_drop]
/-- the cells of the row behind it. -/
theorem del_row {l : List Int} {cs : List Value} {cap i : Nat} (hn : cs.length = cap) (hi : i < l.length) (hc : l.length ≤ cap) (ht : cs.take l.length = nv l) (Z : List Value) (hZ : Z.length = 1) :
    (pu (pu cs i (nv (l.drop (i + 1)))) (l.length - 1) Z).take (l.length - 1) = nv (del l i) := by
  have e1 : cs = nv (l.take i) ++ cs.drop i := by
    rw [← nv_take, ← ht, List.take_take, Nat.min_eq_left (by omega), List.take_append_drop]
  obtain ⟨B, hB⟩ : ∃ B, B = cs.drop i := ⟨_, rfl⟩
  rw [← hB] at e1
  have hA : (nv (l.take i)).length = i := by rw [nv_len, List.length_take]; omega
  have hD : (nv (l.drop (i + 1))).length = l.length - 1 - i := by rw [nv_len, List.length_drop]; omega
  have hq : (nv (del l i)).length = l.length - 1 := by rw [nv_len, del_len hi]
  rw [e1, pu_app _ _ _ _ hA, ← List.append_assoc, show nv (l.take i) ++ nv (l.drop (i + 1)) = nv (del l i) from by unfold del; rw [nv_app], pu_app _ _ _ _ hq, List.take_append_of_le_length (by omega), List.take_of_length_le (by omega)]
theorem run_clear1 {P : Program} (w : World) (t e ty : TypeId) (ht : P.underlying t = some (.slice e)) (hv : ∀ w, (zeroValue e).run P w = .ok (.int .i64 0) w) (b o c : Nat)
    (hc : (w.cell? ⟨b, o, none⟩).isSome = true) (hf : w.frozen? ⟨b, o, none⟩ = false) :
    (Builtin.clear_ #[t] ty #[.slice (some ⟨b, o, none⟩) 1 c]).run P w = .ok (.tuple #[]) (w.setCells b o (nv [0])) := by
  have hzc : (Builtin.zeroCells (Value.int .i64 0).cells 1).toList = nv [0] := by simp [Builtin.zeroCells, Value.cells, nv, List.range, List.range.loop]
  have hst := run_storeCells_cells (P := P) b o (nv [0]) 0 w (fun j hj => by obtain rfl : j = 0 := by (simp [nv] at hj); omega
                                                                             simpa using hc) (fun j hj => by obtain rfl : j = 0 := by (simp [nv] at hj); omega
                                                                                                             simpa using hf) (nv_one _)
  simp only [Nat.add_zero] at hst
  simp [Builtin.clear_, run_underlying ht, hv, hzc, hst]
theorem int_zero : ∀ w, (zeroValue 3).run Tryd.prog w = .ok (.int .i64 0) w := fun w => by kernel_rfl

set_option maxHeartbeats 4000000 in
set_option maxRecDepth 100000 in
theorem del_walk (g n c i : Nat) (cs : List Value) (l : List Int) (w : World) (hi : i < n) (hnc : n ≤ c) (hc63 : c ≤ 9223372036854775807) (hn : n = l.length)
    (R : Rr w g c cs) (ht : cs.take (n) = nv l) :
    Calls Tryd.prog 66 #[.slice (some ⟨g, 0, none⟩) n c, .int .i64 i, .int .i64 ((i : Int) + 1)] w fun e w' =>
      e = .returned (.slice (some ⟨g, 0, none⟩) (n - 1) c) ∧ w' = (w.drew.setCells g (i) (nv (l.drop (i + 1)))).setCells g ((n - 1)) (nv [0]) := by
  obtain ⟨i0, hi0, hz0, hzs, hzb⟩ := info_parts info_int
  obtain ⟨news, hnews⟩ : ∃ news, news = nv (l.drop (i + 1)) := ⟨_, rfl⟩
  have hlen : news.length = (n - 1 - i) := by rw [hnews, nv_len, List.length_drop]; omega
  obtain ⟨A, hA, hsrc⟩ : ∃ A : Addr, (if c = i + 1 then some (⟨g, 0, none⟩ : Addr) else some ⟨g, (i + 1), none⟩) = some A ∧ Hid (∀ t u, news[t]? = some u → w.drew.cell? (A.add t) = some u) := by
    by_cases h : c = i + 1
    · refine ⟨⟨g, 0, none⟩, by simp [h], fun t u hu => ?_⟩
      have h0 : news.length = 0 := by rw [hlen]; omega
      rw [List.length_eq_zero_iff.1 h0] at hu
      simp at hu
    · refine ⟨⟨g, (i + 1), none⟩, by simp [h], fun t u hu => ?_⟩
      rw [Addr.add_lit]
      have h1 : w.drew.cell? ⟨g, (i + 1) + t, none⟩ = cs[(i + 1) + t]? := R.cell _
      rw [h1]
      rw [hnews, ← nv_drop, List.getElem?_drop, ← ht, List.getElem?_take] at hu
      split at hu
      · exact hu
      · cases hu
  have s1 : Hid (news.length = (n - (i + 1)) * 1) := by show news.length = _; rw [hlen]; omega
  have s2 : Hid (∀ u ∈ news, u.oneCell' = true) := by show ∀ u ∈ news, _; rw [hnews]; exact nv_one _
  have s3 : Hid (∀ t, t < news.length → (w.drew.cell? ⟨g, 0 + i * 1 + t, none⟩).isSome = true ∧ w.drew.frozen? ⟨g, 0 + i * 1 + t, none⟩ = false) := fun t ht => ⟨R.drew.there _ (by omega), R.drew.frozen _⟩
  obtain ⟨W1, hW1⟩ : ∃ W1, W1 = w.drew.setCells g (0 + i * 1) news := ⟨_, rfl⟩
  have R1 : Rr W1 g c (pu cs i news) := by rw [hW1, Nat.zero_add, Nat.mul_one]; exact Rr.sets g c _ _ _ _ R.drew (by omega)
  have hcl : ∀ ty, (Builtin.clear_ #[97] ty #[.slice (some ⟨g, (n - 1), none⟩) 1 (c - (n - 1))]).run Tryd.prog W1 = .ok (.tuple #[]) (W1.setCells g ((n - 1)) (nv [0])) :=
    fun ty => run_clear1 W1 _ 3 ty Tryd.underlying97 int_zero g ((n - 1)) _ (R1.there _ (by omega)) (R1.frozen _)
  have hW : Hid (W1 = w.drew.setCells g (0 + i * 1) news) := hW1
  have HN : Hid (news = nv (l.drop (i + 1))) := hnews
  have mixed : Tryd.prog.follows .mixedOrders = true := by kernel_rfl
  have hic : i ≤ c := by omega
  have hjc : i + 1 ≤ c := by omega
  have hjn : i + 1 ≤ n := by omega
  have hj0 : (0 : Int) ≤ (i : Int) + 1 := by omega
  have hj1 : (i : Int) + 1 ≤ (n : Int) := by omega
  have hw1 : ((i : Int) + 1).toNat = i + 1 := by omega
  have hw2 : i + (n - (i + 1)) = n - 1 := by omega
  have hw3 : n - (n - 1) = 1 := by omega
  have hne : ¬ ((i : Int) = (i : Int) + 1) := by omega
  have hcn : ¬ (c = n - 1) := by omega
  clear hW1 R1 R ht hlen hnews hn
  go_enter Tryd.func66, Tryd.ntmps66
  go_wp2_with fail
  go_region_law_o (refine step_append_room rfl (.tmp 22) (.tmp 25) 97 rfl 3 i0 1 Tryd.underlying97 hi0 hzs g 0 i c (by simp [Act.eval, Act.put]) A (n - (i + 1)) (c - (i + 1)) news (by simp [Act.eval, Act.put]) s1.out hsrc.out s2.out (by omega) s3.out ?_; rw [← hW.out])
  go_wp2
  go_ret
  refine ⟨rfl, ?_⟩
  rw [hW.out, HN.out, Nat.zero_add, Nat.mul_one]

theorem delete_any (base : Nat) (v : Value) (l : List Int) (i : Nat) (w : World) (ho : OwnI w base v l) (hi : i < l.length) :
    Calls Tryd.prog 66 #[v, .int .i64 i, .int .i64 ((i : Int) + 1)] w fun e w' => ∃ v', e = .returned v' ∧ OwnI w' base v' (del l i) ∧ Sp v.ownBlock.toList w w' ∧ v'.ownBlock = v.ownBlock := by
  rcases ho.row with ⟨rfl, rfl⟩ | ⟨g, cap, cs, rfl, hbg, R, hle, hcm, ht⟩
  · simp at hi
  · refine (del_walk g l.length cap i cs l w hi hle (by unfold maxLen at hcm; omega) rfl R ht).mono ?_
    rintro e w' ⟨rfl, rfl⟩
    have hd : (nv (l.drop (i + 1))).length = (l.length - (i + 1)) := by rw [nv_len, List.length_drop]
    have hx : (nv [0]).length = 1 := nv_len _
    refine ⟨_, rfl, OwnI.of (Rr.sets g cap _ _ _ _ (Rr.sets g cap _ _ _ _ R.drew (by omega)) (by omega)) hbg (by rw [del_len hi]; omega) hcm (by rw [del_len hi]; exact del_row R.n hi hle ht _ hx) _ (del_len hi).symm, ?_, rfl⟩
    exact Sp.setCells g (by simp [Value.ownBlock]) _ _ _ (Sp.setCells g (by simp [Value.ownBlock]) _ _ _ (((Kp.refl w).drew).sp _))


end Go.Proofs.YtncdidklgpmefaaDoor
