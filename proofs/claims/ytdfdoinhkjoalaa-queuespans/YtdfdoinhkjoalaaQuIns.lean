/-
  Contract of slices.Insert at a row of items and one more. Conditions: that the row is the call's own, and that the item lies in a block of its own.
-/
import Derived.Test.YtdfdoinhkjoalaaQuMem
import Derived.Shelf.RegionOpenPlain
import Derived.WalkKit
import Derived.Lib.Walk
import Derived.Lib.SliceRun
import Derived.Lib.JoinLaws
import Derived.Lib.AppendZeros
import Derived.Lib.AppendZerosOnto
import Derived.Lib.Overlaps
import Derived.Laws.Externs
import Derived.Laws.NewBlocks
namespace Go.Proofs.Ytdfdoinhkjoalaa
open Go.RowKit Plain Go.Lib
set_option linter.unusedVariables false

theorem isSome_sets (b : Nat) (vs : List Value) (o : Nat) (w : World) (h : ∀ j, j < vs.length → (w.cell? ⟨b, o + j, none⟩).isSome = true) (k : Nat) (hk : (w.cell? ⟨b, k, none⟩).isSome = true) : ((w.setCells b o vs).cell? ⟨b, k, none⟩).isSome = true := by
  by_cases hin : o ≤ k ∧ k < o + vs.length
  · have := World.cell?_setCells_in b vs o w h (k - o) (by omega)
    rw [show o + (k - o) = k by omega] at this
    rw [this]; rfl
  · rw [World.cell?_setCells_out b vs o w ⟨b, k, none⟩ (fun _ _ => by show k < o ∨ o + vs.length ≤ k; omega)]
    exact hk
/-- what is to be put in. -/
def ins (l : List It) (i : Nat) (x : It) : List It := l.take i ++ x :: l.drop i
theorem ins_len {l : List It} {i : Nat} (x : It) (h : i ≤ l.length) : (ins l i x).length = l.length + 1 := by
  unfold ins
  simp only [List.length_append, List.length_take, List.length_cons, List.length_drop]
  omega
theorem ins_end (l : List It) (x : It) : ins l l.length x = l ++ [x] := by unfold ins; simp
/-- the cells of the row behind it. -/
theorem ins_room {l : List It} {cs : List Value} {cap i : Nat} (x : It) (hn : cs.length = cap * 3) (hi : i < l.length) (hc : l.length + 1 ≤ cap) (ht : cs.take (l.length * 3) = iv l) :
    (pu (pu cs ((i + 1) * 3) (iv (l.drop i))) (i * 3) (iv [x])).take ((l.length + 1) * 3) = iv (ins l i x) := by
  have e1 : cs = iv (l.take i) ++ cs.drop (i * 3) := by
    rw [← iv_take, ← ht, List.take_take, Nat.min_eq_left (by omega), List.take_append_drop]
  obtain ⟨B, hB⟩ : ∃ B, B = cs.drop (i * 3) := ⟨_, rfl⟩
  have hBl : B.length = cap * 3 - i * 3 := by rw [hB, List.length_drop, hn]
  rw [← hB] at e1
  have hA : (iv (l.take i)).length = i * 3 := by rw [iv_len, List.length_take]; omega
  have e2 : cs = (iv (l.take i) ++ B.take 3) ++ B.drop 3 := by rw [List.append_assoc, List.take_append_drop]; exact e1
  have hY : (B.take 3).length = 3 := by rw [List.length_take]; omega
  have hX : (iv [x]).length = 3 := iv_len _
  have hD : (iv (l.drop i)).length = (l.length - i) * 3 := by rw [iv_len, List.length_drop]
  rw [e2, pu_app _ _ _ _ (by rw [List.length_append, hA, hY]; omega), List.append_assoc, pu_app _ _ _ _ hA, hX]
  rw [show (B.take 3 ++ (iv (l.drop i) ++ (B.drop 3).drop (iv (l.drop i)).length)).drop 3 = iv (l.drop i) ++ (B.drop 3).drop (iv (l.drop i)).length from by
    rw [List.drop_append_of_le_length (by omega), List.drop_eq_nil_of_le (by omega), List.nil_append]]
  rw [show iv (l.take i) ++ (iv [x] ++ (iv (l.drop i) ++ (B.drop 3).drop (iv (l.drop i)).length)) = iv (ins l i x) ++ (B.drop 3).drop (iv (l.drop i)).length from by
    unfold ins; rw [show x :: l.drop i = [x] ++ l.drop i from rfl, iv_app, iv_app]; simp [List.append_assoc]]
  rw [List.take_append_of_le_length (by rw [iv_len, ins_len x (by omega)]; omega), List.take_of_length_le (by rw [iv_len, ins_len x (by omega)]; omega)]
theorem ins_grow {l : List It} {cs Z : List Value} {i : Nat} (x : It) (hi : i < l.length) (hcs : cs = iv (l.take i) ++ Z) (hZ : (l.length + 1 - i) * 3 ≤ Z.length) :
    (pu (pu cs (i * 3) (iv [x])) ((i + 1) * 3) (iv (l.drop i))).take ((l.length + 1) * 3) = iv (ins l i x) := by
  have hA : (iv (l.take i)).length = i * 3 := by rw [iv_len, List.length_take]; omega
  have hX : (iv [x]).length = 3 := iv_len _
  have hD : (iv (l.drop i)).length = (l.length - i) * 3 := by rw [iv_len, List.length_drop]
  rw [hcs, pu_app _ _ _ _ hA, ← List.append_assoc, pu_app _ _ _ _ (by rw [List.length_append, hA, hX]; omega)]
  rw [show iv (l.take i) ++ iv [x] ++ (iv (l.drop i) ++ (Z.drop (iv [x]).length).drop (iv (l.drop i)).length) = iv (ins l i x) ++ (Z.drop (iv [x]).length).drop (iv (l.drop i)).length from by
    unfold ins; rw [show x :: l.drop i = [x] ++ l.drop i from rfl, iv_app, iv_app]; simp [List.append_assoc]]
  rw [List.take_append_of_le_length (by rw [iv_len, ins_len x (by omega)]; omega), List.take_of_length_le (by rw [iv_len, ins_len x (by omega)]; omega)]

set_option maxHeartbeats 4000000 in
set_option maxRecDepth 100000 in
theorem ins_at_end (base : Nat) (v : Value) (l : List It) (x : It) (vb : Nat) (w : World) (ho : Oi w base 31 v l) (hl : l.length ≤ 1000) (hv : Rr w vb 31 1 (iv [x])) (hb : base ≤ w.heap.size) :
    Calls Try.prog 30 #[v, .int .i64 l.length, .slice (some ⟨vb, 0, none⟩) 1 1] w fun e w' => ∃ v', e = .returned v' ∧ Oi w' base 31 v' (l ++ [x]) ∧ Sp v.ownBlock.toList w w' ∧ (v'.ownBlock = v.ownBlock ∨ v'.ownBlock = some w.heap.size) := by
  have hx : ItIn w (.slice (some ⟨vb, 0, none⟩) 1 1) [x] := ⟨_, vb, 0, 1, rfl, ⟨fun _ => rfl, fun h => (by cases h), by simp, by unfold maxLen; omega, fun i h => (by
    obtain rfl : i = 0 := by simp at h; omega
    rw [hv.cell]; rfl), fun i h => (by
    obtain rfl : i = 0 := by simp at h; omega
    rw [hv.cell]; rfl), fun i h => (by
    obtain rfl : i = 0 := by simp at h; omega
    rw [hv.cell]; rfl)⟩⟩
  have HX : Hid (ItIn w (.slice (some ⟨vb, 0, none⟩) 1 1) [x]) := hx
  have HO : Hid (Oi w base 31 v l) := ho
  clear hx hv
  obtain ⟨n, hn⟩ : ∃ n, n = l.length := ⟨_, rfl⟩
  rcases ho.row with ⟨hv0, hl0⟩ | ⟨g, cap, cs, hv0, _, _, hle, hcm, _⟩
  · rw [hv0, hl0] at HO ⊢
    clear ho hv0 hl0 hn hl
    have h0 : ((([] : List It).length : Nat) : Int) = 0 := rfl
    rw [h0]
    go_enter Try.func30, Try.ntmps30
    go_wp2_with (at_builtin; refine wpList_append_it rfl _ _ 60 rfl base 31 elyQ _ [] rfl HO.out _ [x] rfl HX.out ?c1 hb ?_; rotate_left; intro u2 w4 ho2 hg2 hr2)
    case c1 => simp
    go_ret
    exact ⟨_, rfl, ho2, grown_sp hg2, hr2⟩
  · rw [hv0] at HO ⊢
    rw [← hn] at hle HO hl ⊢
    unfold maxLen at hcm
    clear ho hv0
    have HN : Hid (n = l.length) := hn
    clear hn
    have hcn0 : cap = n ∨ ¬ cap = n := by omega
    rcases hcn0 with hcn | hcn
    all_goals
      go_enter Try.func30, Try.ntmps30
      go_wp2_with (at_builtin; refine wpList_append_it rfl _ _ 60 rfl base 31 elyQ _ l rfl HO.out _ [x] rfl HX.out ?c1 hb ?_; rotate_left; intro u2 w4 ho2 hg2 hr2)
      case c1 => have h1 : n = l.length := HN.out; rw [← h1]; simp; omega
      go_ret
      exact ⟨_, rfl, ho2, grown_sp hg2, hr2⟩

set_option maxHeartbeats 4000000 in
set_option maxRecDepth 100000 in
theorem ins_in_room (g n c i vb : Nat) (cs : List Value) (l : List It) (x : It) (w : World) (hi : i < n) (hroom : n + 1 ≤ c) (hc63 : c ≤ 9223372036854775807) (hvb : vb ≠ g) (hn : n = l.length)
    (R : Rr w g 31 c cs) (ht : cs.take (n * 3) = iv l) (V : Rr w vb 31 1 (iv [x])) :
    Calls Try.prog 30 #[.slice (some ⟨g, 0, none⟩) n c, .int .i64 i, .slice (some ⟨vb, 0, none⟩) 1 1] w fun e w' =>
      e = .returned (.slice (some ⟨g, 0, none⟩) (n + 1) c) ∧ w' = (w.drew.setCells g ((i + 1) * 3) (iv (l.drop i))).setCells g (i * 3) (iv [x]) := by
  have hz2 : ¬ ((i : Int) = (n : Int)) := by omega
  have hov : ∀ lb cb, (callFunc 43 #[.slice (some ⟨vb, 0, none⟩) 1 1, .slice (some ⟨g, (i + 1) * 3, none⟩) lb cb]).run Try.prog w = .ok (.value (.bool false)) w := fun lb cb => by
    rw [run_callFunc_extern Try.func43 (by kernel_rfl) (by kernel_rfl) (by kernel_rfl) (e := Extern.SlicesOverlaps.overlaps #[60, 60] #[4]) (by kernel_rfl),
      Lib.run_overlaps_apart w 60 4 31 elyQ.u 3 (ely_size elyQ) ⟨vb, 0, none⟩ ⟨g, (i + 1) * 3, none⟩ 1 1 lb cb hvb _ _ _ _ V.shape R.shape (by omega) (V.frozen _) (V.frozen _)]
    rfl
  have hdl : (iv (l.drop i)).length = (n - i) * 3 := by rw [iv_len, List.length_drop, hn]
  have hw1 : IntKind.i64.wrap ((i : Int) + 1) = (i : Int) + 1 := by rw [IntKind.wrap_i64]; omega
  have hb1 : (0 : Int) ≤ (i : Int) + 1 := by omega
  have hin : i ≤ n := by omega
  have htn : ((i : Int) + 1).toNat = i + 1 := by omega
  have hb2 : ¬ (c = i + 1) := by omega
  have hb3 : (i : Int) ≤ (n : Int) + 1 := by omega
  have hb4 : ¬ (c = i) := by omega
  have hcp1 : ∀ ty dc sc, (Builtin.copy_ #[60, 60] ty #[.slice (some ⟨g, (i + 1) * 3, none⟩) (n - i) dc, .slice (some ⟨g, i * 3, none⟩) (n + 1 - i) sc]).run Try.prog w.drew = .ok (goInt (Nat.min (n + 1 - i) (n - i))) (w.drew.setCells g ((i + 1) * 3) (iv (l.drop i))) := fun ty dc sc =>
    run_copy3 w.drew _ _ ty 31 g ((i + 1) * 3) (n - i) dc ⟨g, i * 3, none⟩ (n + 1 - i) sc (iv (l.drop i)) elyQ.u (ely_map elyQ) (by rw [hdl, show Nat.min (n + 1 - i) (n - i) = n - i by simp only [Nat.min_def]; split <;> omega])
      (fun j v hj => by
        rw [Addr.add_lit]
        have h1 : w.drew.cell? ⟨g, i * 3 + j, none⟩ = cs[i * 3 + j]? := R.cell _
        rw [h1]
        rw [← iv_drop, List.getElem?_drop, ← ht, List.getElem?_take] at hj
        split at hj
        · exact hj
        · cases hj)
      (fun j hj => R.there _ (by omega)) (fun j hj => R.frozen _) (iv_one _)
  obtain ⟨W1, hW1⟩ : ∃ W1, W1 = w.drew.setCells g ((i + 1) * 3) (iv (l.drop i)) := ⟨_, rfl⟩
  have R1 : Rr W1 g 31 c (pu cs ((i + 1) * 3) (iv (l.drop i))) := by rw [hW1]; exact Rr.sets _ g c _ _ _ _ R.drew (by omega)
  have V1 : Rr W1 vb 31 1 (iv [x]) := by rw [hW1]; exact V.drew.sp (Sp.setCells (T := [g]) g (by simp) _ _ _ (Sp.refl _ _)) (by simpa using hvb)
  have hcp2 : ∀ (W : World), (∀ x, W.cell? x = W1.cell? x) → (∀ x, W.frozen? x = W1.frozen? x) → ∀ ty dc, (Builtin.copy_ #[60, 60] ty #[.slice (some ⟨g, i * 3, none⟩) (n + 1 - i) dc, .slice (some ⟨vb, 0, none⟩) 1 1]).run Try.prog W = .ok (goInt (Nat.min 1 (n + 1 - i))) (W.setCells g (i * 3) (iv [x])) := fun W hWc hWf ty dc =>
    run_copy3 W _ _ ty 31 g (i * 3) (n + 1 - i) dc ⟨vb, 0, none⟩ 1 1 (iv [x]) elyQ.u (ely_map elyQ) (by rw [iv_len, show Nat.min 1 (n + 1 - i) = 1 by simp only [Nat.min_def]; split <;> omega]; rfl)
      (fun j v hj => by rw [Addr.add_lit, hWc, V1.cell, Nat.zero_add]; exact hj)
      (fun j hj => by rw [hWc]; exact R1.there _ (by rw [iv_len] at hj; simp only [List.length_cons, List.length_nil] at hj; omega)) (fun j hj => by rw [hWf]; exact R1.frozen _) (iv_one _)
  rw [← hW1] at hcp1
  have HW : Hid (W1 = w.drew.setCells g ((i + 1) * 3) (iv (l.drop i))) := hW1
  clear hW1 R1 V1 R V ht hdl hn
  have mixed : Try.prog.follows .mixedOrders = true := by kernel_rfl
  go_enter Try.func30, Try.ntmps30
  go_wp2_with (simp only [hov])
  go_region_law_o (refine step_copy3 rfl _ _ 60 60 rfl _ _ (by simp [Act.eval, Act.put]) (by simp [Act.eval, Act.put]) (hcp1 _ _ _) ?_)
  go_wp2_with (at_builtin; refine wpList_copy3 _ rfl _ _ 60 60 rfl _ _ rfl rfl (hcp2 _ (fun _ => rfl) (fun _ => rfl) _ _) ?_)
  go_ret
  first | exact ⟨rfl, rfl⟩ | exact ⟨rfl, by rw [HW.out]⟩

set_option maxHeartbeats 4000000 in
set_option maxRecDepth 100000 in
theorem ins_no_room (g n c i vb : Nat) (cs : List Value) (l : List It) (x : It) (w : World) (hi : i < n) (hl : n ≤ 1000) (hroom : c = n) (hn : n = l.length)
    (R : Rr w g 31 c cs) (ht : cs.take (n * 3) = iv l) (V : Rr w vb 31 1 (iv [x])) :
    Calls Try.prog 30 #[.slice (some ⟨g, 0, none⟩) n c, .int .i64 i, .slice (some ⟨vb, 0, none⟩) 1 1] w fun e w' =>
      ∃ (G : Nat) (ROW : List Value), n + 1 ≤ G ∧ G ≤ maxLen ∧ ROW.length = G * 3 ∧ ROW.take (i * 3) = iv (l.take i) ∧ e = .returned (.slice (some ⟨w.heap.size, 0, none⟩) (n + 1) G) ∧ w' = (((w.alloc (.cells ROW.toArray 31)).drew.setCells w.heap.size (i * 3) (iv [x])).drew).setCells w.heap.size ((i + 1) * 3) (iv (l.drop i)) := by
  obtain ⟨i0, hi0, hz0, hzs, hzb⟩ := info_parts elyQ.i
  have hz2 : ¬ ((i : Int) = (n : Int)) := by omega
  have hz3 : (c : Int) < (n : Int) + 1 := by omega
  have hbw : g < w.heap.size := R.low
  have hvw : vb < w.heap.size := V.low
  have hkk : (n : Int) + 1 - (i : Int) = ((n + 1 - i : Nat) : Int) := by omega
  have hik : i + (n + 1 - i) = n + 1 := by omega
  have hold : (Builtin.firstCells i0.size i (.slice (some ⟨g, 0, none⟩) i c)).run Try.prog w.drew = .ok (iv (l.take i)).toArray w.drew := by
    rw [hzs]
    exact run_firstCells_some w.drew 3 i ⟨g, 0, none⟩ i c (iv (l.take i)) (by rw [iv_len, List.length_take]; omega) (fun j v hj => by
      rw [Addr.add_lit, Nat.zero_add]
      have h1 : w.drew.cell? ⟨g, j, none⟩ = cs[j]? := R.cell _
      rw [h1]
      rw [← iv_take, ← ht, List.take_take, List.getElem?_take] at hj
      split at hj
      · exact hj
      · cases hj)
  have hrz : ∀ ty, (Builtin.append_ #[60, 3] ty #[.slice (some ⟨g, 0, none⟩) i c, .int .i64 ((n : Int) + 1 - (i : Int))]).run Try.prog w =
      .ok (.slice (some ⟨w.heap.size, 0, none⟩) (n + 1) (grownCap w (n + 1) c 31)) (w.drew.alloc (.cells ((iv (l.take i)).toArray ++ Builtin.zeroCells itZ.cells (n + 1 - i) ++ Builtin.zeroCells itZ.cells (grownCap w (n + 1) c 31 - (n + 1))) 31)) := fun ty => by
    have h := Lib.run_append_grow_zeros w 60 3 ty 31 i0 _ .i64 .i64 elyQ.u Try.underlying3 hi0 hz0 (some ⟨g, 0, none⟩) i c (iv (l.take i)) hold (n + 1 - i) (by omega) (by omega) (by omega) (by omega) (by rw [hzb]; omega) (by rw [hzb, hik]; exact growslice_fits (by omega) (by omega))
    rw [hik] at h
    rw [hkk]
    exact h
  have hGn := grownCap_ge w (n + 1) c 31
  have hG63 := grownCap_le_maxLen w (n + 1) c 31 (by unfold maxLen; omega)
  obtain ⟨G, hG⟩ : ∃ G, G = grownCap w (n + 1) c 31 := ⟨_, rfl⟩
  rw [← hG] at hrz hGn hG63
  obtain ⟨ROW, hROW⟩ : ∃ ROW : List Value, ROW = ((iv (l.take i)).toArray ++ Builtin.zeroCells itZ.cells (n + 1 - i) ++ Builtin.zeroCells itZ.cells (G - (n + 1))).toList := ⟨_, rfl⟩
  have hRa : ((iv (l.take i)).toArray ++ Builtin.zeroCells itZ.cells (n + 1 - i) ++ Builtin.zeroCells itZ.cells (G - (n + 1))) = ROW.toArray := by rw [hROW]
  rw [hRa] at hrz
  have hRl : ROW.length = G * 3 := by
    rw [hROW]
    simp only [Array.length_toList, Array.size_append, List.size_toArray, iv_len, List.length_take, size_zeroCells]
    show min i l.length * 3 + (n + 1 - i) * 3 + (G - (n + 1)) * 3 = G * 3
    rw [Nat.min_eq_left (by omega)]
    omega
  have hRt : ROW.take (i * 3) = iv (l.take i) := by
    rw [hROW]
    simp only [Array.toList_append]
    rw [List.append_assoc, List.take_append_of_le_length (by rw [iv_len, List.length_take]; omega), List.take_of_length_le (by rw [iv_len, List.length_take]; omega)]
  clear hROW hRa
  have RN : Rr (w.drew.alloc (.cells ROW.toArray 31)) w.heap.size 31 G ROW := Rr.new w.drew ROW _ G hRl _ rfl
  obtain ⟨W1, hW1⟩ : ∃ W1, W1 = w.drew.alloc (.cells ROW.toArray 31) := ⟨_, rfl⟩
  rw [← hW1] at hrz RN
  have k1 : Kp w W1 := by rw [hW1]; exact ((Kp.refl w).drew).alloc _
  have V1 := V.kept k1
  have R1 := R.kept k1
  have hGm : G ≤ 9223372036854775807 := by unfold maxLen at hG63; omega
  have hcpA : ∀ (W : World), (∀ x, W.cell? x = W1.cell? x) → (∀ x, W.frozen? x = W1.frozen? x) → ∀ ty dc, (Builtin.copy_ #[60, 60] ty #[.slice (some ⟨w.heap.size, i * 3, none⟩) (n + 1 - i) dc, .slice (some ⟨vb, 0, none⟩) 1 1]).run Try.prog W = .ok (goInt (Nat.min 1 (n + 1 - i))) (W.setCells w.heap.size (i * 3) (iv [x])) := fun W hWc hWf ty dc =>
    run_copy3 W _ _ ty 31 w.heap.size (i * 3) (n + 1 - i) dc ⟨vb, 0, none⟩ 1 1 (iv [x]) elyQ.u (ely_map elyQ) (by rw [iv_len, show Nat.min 1 (n + 1 - i) = 1 by simp only [Nat.min_def]; split <;> omega]; rfl)
      (fun j v hj => by rw [Addr.add_lit, hWc, V1.cell, Nat.zero_add]; exact hj)
      (fun j hj => by rw [hWc]; exact RN.there _ (by rw [iv_len] at hj; simp only [List.length_cons, List.length_nil] at hj; omega)) (fun j hj => by rw [hWf]; exact RN.frozen _) (iv_one _)
  have hdl : (iv (l.drop i)).length = (n - i) * 3 := by rw [iv_len, List.length_drop, hn]
  have hX3 : (iv [x]).length = 3 := iv_len _
  have RN2 : Rr (W1.setCells w.heap.size (i * 3) (iv [x])) w.heap.size 31 G (pu ROW (i * 3) (iv [x])) := Rr.sets _ _ G _ _ _ _ RN (by omega)
  have R2 : Rr (W1.setCells w.heap.size (i * 3) (iv [x])) g 31 c cs := R1.sp (Sp.setCells (T := [w.heap.size]) w.heap.size (by simp) _ _ _ (Sp.refl _ _)) (by simp; omega)
  have hcpB : ∀ (W : World), (∀ y, W.cell? y = (W1.setCells w.heap.size (i * 3) (iv [x])).cell? y) → (∀ y, W.frozen? y = (W1.setCells w.heap.size (i * 3) (iv [x])).frozen? y) → ∀ ty dc sc, (Builtin.copy_ #[60, 60] ty #[.slice (some ⟨w.heap.size, (i + 1) * 3, none⟩) (n - i) dc, .slice (some ⟨g, i * 3, none⟩) (n - i) sc]).run Try.prog W = .ok (goInt (Nat.min (n - i) (n - i))) (W.setCells w.heap.size ((i + 1) * 3) (iv (l.drop i))) := fun W hWc hWf ty dc sc =>
    run_copy3 W _ _ ty 31 w.heap.size ((i + 1) * 3) (n - i) dc ⟨g, i * 3, none⟩ (n - i) sc (iv (l.drop i)) elyQ.u (ely_map elyQ) (by rw [hdl, show Nat.min (n - i) (n - i) = n - i by simp only [Nat.min_def]; split <;> omega])
      (fun j v hj => by
        rw [Addr.add_lit, hWc, R2.cell]
        rw [← iv_drop, List.getElem?_drop, ← ht, List.getElem?_take] at hj
        split at hj
        · exact hj
        · cases hj)
      (fun j hj => by rw [hWc]; exact RN2.there _ (by omega))
      (fun j hj => by rw [hWf]; exact RN2.frozen _) (iv_one _)
  subst hW1
  have hE1 : ∀ y, ((w.alloc (.cells ROW.toArray 31)).drew).cell? y = (w.drew.alloc (.cells ROW.toArray 31)).cell? y := fun y => rfl
  have hE2 : ∀ y, ((w.alloc (.cells ROW.toArray 31)).drew).frozen? y = (w.drew.alloc (.cells ROW.toArray 31)).frozen? y := fun y => rfl
  have hF1 : ∀ y, (((w.alloc (.cells ROW.toArray 31)).drew.setCells w.heap.size (i * 3) (iv [x])).drew).cell? y = ((w.drew.alloc (.cells ROW.toArray 31)).setCells w.heap.size (i * 3) (iv [x])).cell? y := fun y => rfl
  have hF2 : ∀ y, (((w.alloc (.cells ROW.toArray 31)).drew.setCells w.heap.size (i * 3) (iv [x])).drew).frozen? y = ((w.drew.alloc (.cells ROW.toArray 31)).setCells w.heap.size (i * 3) (iv [x])).frozen? y := fun y => rfl
  have HG : Hid (n + 1 ≤ G ∧ G ≤ maxLen ∧ ROW.length = G * 3 ∧ ROW.take (i * 3) = iv (l.take i)) := ⟨hGn, hG63, hRl, hRt⟩
  have hw1 : IntKind.i64.wrap ((i : Int) + 1) = (i : Int) + 1 := by rw [IntKind.wrap_i64]; omega
  have hb1 : (0 : Int) ≤ (i : Int) + 1 := by omega
  have hin : i ≤ n := by omega
  have htn : ((i : Int) + 1).toNat = i + 1 := by omega
  have hb3 : (i : Int) ≤ (n : Int) := by omega
  have hGi : ¬ (G = i) := by omega
  have hGim : ¬ (G = i + 1) := by omega
  have hci : ¬ (c = i) := by omega
  have hic : (i : Int) ≤ (c : Int) := by omega
  have mixed : Try.prog.follows .mixedOrders = true := by kernel_rfl
  clear hkk hik hold hG hG63 hRl hRt k1 V1 R1 RN RN2 R2 V R ht hdl hn hi0 hz0 hzs hzb hroom
  go_enter Try.func30, Try.ntmps30
  go_wp2_with (first
    | (at_builtin; refine Lib.wpList_append_run _ rfl _ _ _ _ rfl _ _ rfl rfl _ _ (hrz _) ?_)
    | (at_builtin; refine wpList_copy3 _ rfl _ _ 60 60 rfl _ _ rfl rfl (hcpA _ hE1 hE2 _ _) ?_)
    | (at_builtin; refine wpList_copy3 _ rfl _ _ 60 60 rfl _ _ rfl rfl (hcpB _ (fun _ => rfl) (fun _ => rfl) _ _ _) ?_))
  go_region_law_o (refine step_copy3 rfl _ _ 60 60 rfl (.slice (some ⟨w.heap.size, (i + 1) * 3, none⟩) (n - i) (G - (i + 1))) (.slice (some ⟨g, i * 3, none⟩) (n - i) (c - i)) (by simp [Act.eval, Act.put]) (by simp [Act.eval, Act.put]) (hcpB _ hF1 hF2 3 (G - (i + 1)) (c - i)) ?_)
  go_wp2
  go_ret
  exact ⟨G, ROW, HG.out.1, HG.out.2.1, HG.out.2.2.1, HG.out.2.2.2, rfl, rfl⟩

theorem insert_any (base : Nat) (v : Value) (l : List It) (x : It) (i vb : Nat) (w : World) (ho : Oi w base 31 v l) (hi : i ≤ l.length) (hl : l.length ≤ 1000) (V : Rr w vb 31 1 (iv [x])) (hne : v.ownBlock ≠ some vb) (hb : base ≤ w.heap.size) :
    Calls Try.prog 30 #[v, .int .i64 i, .slice (some ⟨vb, 0, none⟩) 1 1] w fun e w' => ∃ v', e = .returned v' ∧ Oi w' base 31 v' (ins l i x) ∧ Sp v.ownBlock.toList w w' ∧ (v'.ownBlock = v.ownBlock ∨ v'.ownBlock = some w.heap.size) := by
  by_cases he : i = l.length
  · subst he
    rw [ins_end]
    exact ins_at_end base v l x vb w ho hl V hb
  · rcases ho.row with ⟨rfl, rfl⟩ | ⟨g, cap, cs, rfl, hbg, R, hle, hcm, ht⟩
    · simp at hi he
      exact absurd hi he
    · by_cases hr : l.length + 1 ≤ cap
      · refine (ins_in_room g l.length cap i vb cs l x w (by omega) hr (by unfold maxLen at hcm; omega) (fun e => hne (by rw [e]; rfl)) rfl R ht V).mono ?_
        rintro e w' ⟨rfl, rfl⟩
        have hd : (iv (l.drop i)).length = (l.length - i) * 3 := by rw [iv_len, List.length_drop]
        have hx : (iv [x]).length = 3 := iv_len _
        refine ⟨_, rfl, Oi.of (Rr.sets _ g cap _ _ _ _ (Rr.sets _ g cap _ _ _ _ R.drew (by omega)) (by omega)) hbg (by rw [ins_len x hi]; exact hr) hcm (by rw [ins_len x hi]; exact ins_room x R.n (by omega) hr ht) _ (ins_len x hi).symm, ?_, .inl rfl⟩
        exact Sp.setCells g (by simp [Value.ownBlock]) _ _ _ (Sp.setCells g (by simp [Value.ownBlock]) _ _ _ (((Kp.refl w).drew).sp _))
      · refine (ins_no_room g l.length cap i vb cs l x w (by omega) hl (by omega) rfl R ht V).mono ?_
        rintro e w' ⟨G, ROW, hG1, hG2, hR1, hR2, rfl, rfl⟩
        have hd : (iv (l.drop i)).length = (l.length - i) * 3 := by rw [iv_len, List.length_drop]
        have hx : (iv [x]).length = 3 := iv_len _
        have RN : Rr (w.alloc (.cells ROW.toArray 31)) w.heap.size 31 G ROW := Rr.new w ROW _ G hR1 _ rfl
        refine ⟨_, rfl, Oi.of (Rr.sets _ _ G _ _ _ _ (Rr.sets _ _ G _ _ _ _ RN.drew (by omega)).drew (by omega)) hb (by rw [ins_len x hi]; exact hG1) hG2 (by rw [ins_len x hi]; exact ins_grow (Z := ROW.drop (i * 3)) x (by omega) (by rw [← hR2, List.take_append_drop]) (by rw [List.length_drop, hR1]; omega)) _ (ins_len x hi).symm, ?_, .inr rfl⟩
        have k : Kp w (w.alloc (.cells ROW.toArray 31)).drew := ((Kp.refl w).alloc _).drew
        have hN : Nw w (Value.slice (some ⟨g, 0, none⟩) l.length cap).ownBlock.toList [w.heap.size] := fun t ht => .inr (by simp at ht; omega)
        refine (k.sp _).then (T' := [w.heap.size]) ?_ hN
        exact Sp.setCells w.heap.size (by simp) _ _ _ ((Sp.setCells w.heap.size (by simp) _ _ _ (Sp.refl _ _)).trans (((Kp.refl _).drew).sp _))

end Go.Proofs.Ytdfdoinhkjoalaa
