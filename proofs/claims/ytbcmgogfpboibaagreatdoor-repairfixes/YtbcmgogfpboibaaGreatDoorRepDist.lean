/-
  Contracts of repair's distinct, and of what it is made of (slices.Values, AppendSeq, Collect, Sorted, Compact over numbers): the numbers rising, each once, in memory of the call's own. Conditions: that the list's cells hold the numbers.
-/
import Derived.Test.YtbcmgogfpboibaaGreatDoorRepInts
import Derived.Test.YtbcmgogfpboibaaGreatDoorShelf
import Derived.Test.YtbcmgogfpboibaaGreatDoorSynWgt
import Derived.Maps.AppendAt
namespace Go.Proofs.YtbcmgogfpboibaaGreatDoor
open Go.RowKit Go.Shelf Go.Sort Plain

attribute [local go_sem] Oper.semAt_some

/-- a list of numbers in memory. -/
inductive IntsIn (w : World) : Value → List Int → Prop
  | empty (a : Option Addr) (cap : Nat) (h : cap ≤ maxLen) : IntsIn w (.slice a 0 cap) []
  | some (b off cap : Nat) (l : List Int) (h0 : 0 < l.length) (h1 : l.length ≤ cap) (h2 : cap ≤ maxLen) (hc : ∀ i, i < l.length → w.cell? ⟨b, off + i, none⟩ = Option.some (.int .i64 (l.getD i 0))) : IntsIn w (.slice (Option.some ⟨b, off, none⟩) l.length cap) l
theorem IntsIn.kept {w w' : World} {v : Value} {l : List Int} (h : IntsIn w v l) (k : Kp w w') : IntsIn w' v l := by
  cases h with
  | empty a cap h => exact .empty a cap h
  | some b off cap l h0 h1 h2 hc => exact .some b off cap l h0 h1 h2 (fun i hi => k.held (hc i hi))
/-- the same in memory from block B on. -/
inductive IntsAt (w : World) (B : Nat) : Value → List Int → Prop
  | empty (a : Option Addr) (cap : Nat) (h : cap ≤ maxLen) : IntsAt w B (.slice a 0 cap) []
  | some (g cap : Nat) (l : List Int) (h0 : 0 < l.length) (h1 : l.length ≤ cap) (h2 : cap ≤ maxLen) (hB : B ≤ g) (hc : ∀ i, i < l.length → w.cell? ⟨g, i, none⟩ = Option.some (.int .i64 (l.getD i 0))) : IntsAt w B (.slice (Option.some ⟨g, 0, none⟩) l.length cap) l
theorem IntsAt.kept {w w' : World} {B : Nat} {v : Value} {l : List Int} (h : IntsAt w B v l) (k : Kp w w') : IntsAt w' B v l := by
  cases h with
  | empty a cap h => exact .empty a cap h
  | some g cap l h0 h1 h2 hB hc => exact .some g cap l h0 h1 h2 hB (fun i hi => k.held (hc i hi))
theorem IntsAt.mono {w : World} {B B' : Nat} {v : Value} {l : List Int} (h : IntsAt w B v l) (hb : B' ≤ B) : IntsAt w B' v l := by
  cases h with
  | empty a cap h => exact .empty a cap h
  | some g cap l h0 h1 h2 hB hc => exact .some g cap l h0 h1 h2 (Nat.le_trans hb hB) hc

theorem values_any (a : Option Addr) (len cap : Nat) (w : World) :
    Calls Tryz.prog 36 #[.slice a len cap] w fun e w' => e = .returned (.func (.func 54) #[] #[.pointer (some ⟨w.heap.size, 0, none⟩)]) ∧ w' = w.alloc (.cells #[.slice a len cap] 22) := by
  go_enter Tryz.func36, Tryz.ntmps36
  go_wp2
  go_ret
  exact ⟨rfl, rfl⟩

def encI (x : Int) : Array Value := #[.int .i64 x]
theorem take_succ_int (l : List Int) (k : Nat) (h : k < l.length) : l.take (k + 1) = l.take k ++ [l.getD k 0] := by
  rw [List.take_add_one, List.getElem?_eq_getElem h, List.getD_eq_getElem?_getD, List.getElem?_eq_getElem h]; rfl

set_option maxRecDepth 100000 in
set_option maxHeartbeats 2000000 in
theorem val1_in (F : Fence) (m : Nat) (hf : F.fn 54) (hro : F.round = none) (hm : 1 ≤ m) (ll Bs b off cap n0 : Nat) (a : Option Addr) (l : List Int) (hl : l.length ≤ 9223372036854775807) (ha : 0 < l.length → a = some ⟨b, off, none⟩) (hb : 0 < l.length → b < n0) (J Jx : List Int → World → Prop)
    (hY : ∀ pre x W, J pre W → pre.length < l.length → YieldAt F (m - 1) Tryz.prog ll (encI x) W fun e W' =>
      (e = .returned (.bool true) ∧ J (pre ++ [x]) W' ∧ Below n0 W W') ∨ (e = .returned (.bool false) ∧ Jx (pre ++ [x]) W'))
    (W : World) (hB : W.cell? ⟨Bs, 0, none⟩ = some (.slice a l.length cap)) (hc : ∀ j, j < l.length → W.cell? ⟨b, off + j, none⟩ = some (.int .i64 (l.getD j 0))) (h0 : J [] W) :
    CallsIn F m Tryz.prog 54 #[.func (.yield ll) #[] #[], .pointer (some ⟨Bs, 0, none⟩)] W fun e W' => (∃ v, e = .returned v) ∧
      ((∃ ys, ys = l ∧ J ys W') ∨ (∃ pre, (∃ k, k ≤ l.length ∧ pre = l.take k) ∧ Jx pre W')) := by
  refine callsIn_of_wp Tryz.func54 rfl hf ?_ hro
  simp only [Tryz.ntmps54, List.size_toArray, List.length_cons, List.length_nil, Nat.reduceAdd, Nat.reduceSub, Array.replicate_succ, Array.replicate_zero, List.push_toArray, List.append_toArray, List.nil_append, List.cons_append]
  gi_wp2
  gi_loopw [7] (fun i wr => ∃ k : Nat, k ≤ l.length ∧ i = .int .i64 (k : Int) ∧ J (l.take k) wr ∧ Below n0 W wr) (fun i _ => l.length - (intOf i).toNat)
  case atStart => exact ⟨0, Nat.zero_le _, by go_num, h0, Below.refl _ _⟩
  case round =>
    obtain ⟨k, hk, rfl, hJs, hnx⟩ := hrel
    by_cases hlt : k < l.length
    · have hb' := hb (by omega)
      obtain rfl := ha (by omega)
      have hci : wr.cell? ⟨b, off + k, none⟩ = some (.int .i64 (l.getD k 0)) := (hnx.cell (p := ⟨b, off + k, none⟩) hb').trans (hc k hlt)
      have hyy := hY _ (l.getD k 0) wr hJs (by rw [List.length_take]; omega)
      rw [← take_succ_int l k hlt] at hyy
      unfold encI at hyy
      obtain ⟨x, hx⟩ : ∃ x, x = l.getD k 0 := ⟨_, rfl⟩
      rw [← hx] at hyy hci
      clear hx hc ha hb hb'
      obtain ⟨fn, tmps, assign, body, hy, hR⟩ := hyy
      gi_wp2
      refine hR.mono ?_
      rintro e W3 (⟨rfl, hJ3, hk3⟩ | ⟨rfl, hJx3⟩)
      · gi_wp2
        go_roundw
        case rel => exact ⟨k + 1, by omega, by go_num, hJ3, hnx.trans hk3⟩
        case measure => simp [intOf]; omega
      · gi_wp2
        refine bodyPost_ret (results_none rfl _ _ _) rfl ?_
        exact ⟨⟨_, rfl⟩, .inr ⟨_, ⟨k + 1, by omega, rfl⟩, hJx3⟩⟩
    · obtain rfl : k = l.length := by omega
      rw [List.take_length] at hJs
      gi_wp2
      go_end0
      exact ⟨⟨_, rfl⟩, .inl ⟨_, rfl, hJs⟩⟩

theorem val_stops (w : World) (F : Fence) (m : Nat) (hf : F.fn 54) (hro : F.round = none) (hm : 1 ≤ m) (Bs b off cap : Nat) (a : Option Addr) (l : List Int) (hl : l.length ≤ 9223372036854775807) (ha : 0 < l.length → a = some ⟨b, off, none⟩) (hb : 0 < l.length → b < w.heap.size) (hBs : Bs < w.heap.size)
    (hB : w.cell? ⟨Bs, 0, none⟩ = some (.slice a l.length cap)) (hc : ∀ j, j < l.length → w.cell? ⟨b, off + j, none⟩ = some (.int .i64 (l.getD j 0))) :
    SeqStopsK F m Tryz.prog 54 #[.pointer (some ⟨Bs, 0, none⟩)] encI (Below w.heap.size) (fun ys => ys = l) (fun pre => ∃ k, k ≤ l.length ∧ pre = l.take k) l.length w := fun ll J Jx W hW _ _ hY h0 =>
  val1_in F m hf hro hm ll Bs b off cap w.heap.size a l hl ha hb J Jx hY W ((hW.cell (p := ⟨Bs, 0, none⟩) (by show Bs < _; omega)).trans hB) (fun j hj => (hW.cell (p := ⟨b, off + j, none⟩) (by show b < _; exact hb (by omega))).trans (hc j hj)) h0

theorem info_int : (Tryz.prog.info? 3).map (fun i => (i.zero, i.size, i.bytes)) = some (some (.int .i64 0), 1, 8) := by kernel_rfl
set_option maxRecDepth 100000 in
set_option maxHeartbeats 4000000 in
theorem appseq_any (Bs b off cap : Nat) (a : Option Addr) (l : List Int) (hl : l.length * 8 ≤ 140737488355328) (ha : 0 < l.length → a = some ⟨b, off, none⟩) (w : World) (hb : 0 < l.length → b < w.heap.size) (hBs : Bs < w.heap.size)
    (hB : w.cell? ⟨Bs, 0, none⟩ = some (.slice a l.length cap)) (hc : ∀ j, j < l.length → w.cell? ⟨b, off + j, none⟩ = some (.int .i64 (l.getD j 0))) :
    Calls Tryz.prog 67 #[.slice none 0 0, .func (.func 54) #[] #[.pointer (some ⟨Bs, 0, none⟩)]] w fun e w' => ∃ v, e = .returned v ∧ w'.ownsRow w.heap.size 3 1 v l.length (l.map (Value.int .i64)) ∧ Kp w w' := by
  obtain ⟨i0, hi, hz0, hz1, hz2⟩ := info_parts info_int
  refine (callsIn_wide (n := 3)).1 ?_
  refine callsIn_of_wp_marks Tryz.func67 rfl trivial ?_ rfl
  simp only [Tryz.ntmps67, List.size_toArray, List.length_cons, List.length_nil, Nat.reduceAdd, Nat.reduceSub, Array.replicate_succ, Array.replicate_zero, List.push_toArray, List.append_toArray, List.nil_append, List.cons_append]
  gi_wp2
  obtain ⟨W0, hW0⟩ : ∃ W0, W0 = w.alloc (.cells #[.slice none 0 0] 22) := ⟨_, rfl⟩
  have bS : Boxed W0 w.heap.size 22 (.slice none 0 0) := by rw [hW0]; exact Boxed.new w 22 _
  have K0 : Kp w W0 := by rw [hW0]; exact (Kp.refl w).alloc _
  have hsz : W0.heap.size = w.heap.size + 1 := by rw [hW0]; simp
  rw [← hW0]
  clear hW0
  refine wpIn_rangeFunc_ownF rfl (by omega) (gf := 54) (lb := #[.pointer (some ⟨Bs, 0, none⟩)]) rfl trivial (enters_of Tryz.func54 (by kernel_rfl) rfl)
    (val_stops w Fence.wide 2 trivial rfl (by omega) Bs b off cap a l (by omega) ha hb hBs hB hc) belowK_t (belowK_b (by omega)) K0 (fun _ => rfl)
    (fun (pre : List Int) W => (∃ v, Boxed W w.heap.size 22 v ∧ W.ownsRow w.heap.size 3 1 v pre.length (pre.map (Value.int .i64)) ∧ True) ∧ Below w.heap.size w W)
    (fun _ _ _ => False)
    (OwnFrom.and (Own.from (holdsRow_own w.heap.size w.heap.size 22 3 1 (fun pre : List Int => pre.length) (fun pre : List Int => pre.map (Value.int .i64)) (fun _ _ => True)) _) (ownFrom_below (Nat.le_refl _) (by omega)))
    (fun _ _ _ _ _ hs _ _ => hs)
    ⟨⟨_, bS, World.ownsRow_nil _ _ _ _, trivial⟩, K0⟩
    (fun x => { tmps := #[.slice none 0 0, .func (.func 54) #[] #[.pointer (some ⟨Bs, 0, none⟩)], .pointer (some ⟨w.heap.size, 0, none⟩), undef, .slice none 0 0, .int .i64 x, .func (.func 54) #[] #[.pointer (some ⟨Bs, 0, none⟩)], .int .i64 x, undef, undef, undef, undef, undef], defers := [] }) ?assign ?body ?done ?stop
  case assign =>
    intro l x W K hK
    unfold encI
    gi_wp2
    exact hK
  case body =>
    rintro ll pre x W ⟨⟨v, hv, hrow, _⟩, hB'⟩ hlt
    have hbc := hv.cell
    gi_wp2_with (gi_at_builtin; refine wpListIn_append_own _ rfl _ _ 22 rfl w.heap.size 3 i0 (.int .i64 0) 1 8 Tryz.underlying22 hi hz0 hz1 hz2 rfl (by decide) _ _ _ rfl (hrow.alloc _) ⟨W.heap.size, 0, none⟩ 1 1 [.int .i64 x] rfl rfl (cell_one_new _ _ _) (by simp [Value.oneCell']) (by unfold maxLen; omega) (by omega) (by have := hB'.size; simp; omega) ?_; intro v' w1 hown' hgrow _; obtain ⟨g', cap', rfl⟩ := ownsRow_succ hown'; obtain ⟨hv1, hv2, hr2, hk2, hb2⟩ := hv.appended (by decide) hrow hB'.size (Nat.le_refl _) hown' hgrow; have hc1 := hv1.cell; have hf1 := hv1.frozen)
    exact ⟨hk2, hb2, ⟨_, hv2, by simpa using hr2, trivial⟩, hB'.trans hb2⟩
  case done =>
    rintro D ys W hD rfl ⟨⟨v, hv, hrow, _⟩, hB'⟩ hK
    have hbc := hv.cell
    gi_wp2
    refine ⟨by simp, .inl ⟨_, _, rfl, run_takeDeferred hK, ?_⟩⟩
    exact ⟨_, results_tmp rfl _ _ _, v, rfl, hrow.kept (grownBy_putObj' _ D (.deferred none)) (ownsRow_ne_a hrow hK (fun cur e => by cases e)), Below.trans hB' (belowK_b (w := w) (Nat.le_refl _) W D _ _ (by omega) hK rfl rfl)⟩
  case stop =>
    rintro D c pre W _ _ h _
    exact h.elim

set_option maxHeartbeats 1000000 in
theorem collect_any (Bs b off cap : Nat) (a : Option Addr) (l : List Int) (hl : l.length * 8 ≤ 140737488355328) (ha : 0 < l.length → a = some ⟨b, off, none⟩) (w : World) (hb : 0 < l.length → b < w.heap.size) (hBs : Bs < w.heap.size)
    (hB : w.cell? ⟨Bs, 0, none⟩ = some (.slice a l.length cap)) (hc : ∀ j, j < l.length → w.cell? ⟨b, off + j, none⟩ = some (.int .i64 (l.getD j 0))) :
    Calls Tryz.prog 52 #[.func (.func 54) #[] #[.pointer (some ⟨Bs, 0, none⟩)]] w fun e w' => ∃ v, e = .returned v ∧ w'.ownsRow w.heap.size 3 1 v l.length (l.map (Value.int .i64)) ∧ Kp w w' := by
  have H := appseq_any Bs b off cap a l hl ha w hb hBs hB hc
  clear hB hc
  go_enter Tryz.func52, Tryz.ntmps52
  go_wp2_with fail
  refine H.mono ?_; rintro e w' ⟨v, rfl, ho, k⟩
  go_wp2
  go_ret
  exact ⟨v, rfl, ho, k⟩
theorem kp_grown {w W W' : World} {g : Nat} (k : Kp w W) (h : W.grownBy W' (some g)) (hg : w.heap.size ≤ g) : Kp w W' := Below.grown k h k.size (fun j hj => by cases hj; exact hg)
set_option maxHeartbeats 1000000 in
/-- what Sorted and Compact leave: a slice of the call's own whose first cells are the numbers. -/
theorem sorted_any (Bs b off cap : Nat) (a : Option Addr) (l : List Int) (hl : l.length * 8 ≤ 140737488355328) (ha : 0 < l.length → a = some ⟨b, off, none⟩) (w : World) (hb : 0 < l.length → b < w.heap.size) (hBs : Bs < w.heap.size)
    (hB : w.cell? ⟨Bs, 0, none⟩ = some (.slice a l.length cap)) (hc : ∀ j, j < l.length → w.cell? ⟨b, off + j, none⟩ = some (.int .i64 (l.getD j 0))) :
    Calls Tryz.prog 35 #[.func (.func 54) #[] #[.pointer (some ⟨Bs, 0, none⟩)]] w fun e w' => ∃ v, e = .returned v ∧ w'.ownsRow w.heap.size 3 1 v l.length ((l.mergeSort fun x y => decide (x ≤ y)).map (Value.int .i64)) ∧ Kp w w' := by
  have H := collect_any Bs b off cap a l hl ha w hb hBs hB hc
  clear hB hc
  go_enter Tryz.func35, Tryz.ntmps35
  go_wp2_with fail
  refine H.mono ?_; rintro e w1 ⟨v, rfl, ho, k⟩
  clear H
  rcases ho.2 with ⟨rfl, hz⟩ | ⟨gb, cap', cur, rfl, hbase, hgb, r1, r2, r3, r4⟩
  · obtain rfl : l = [] := List.eq_nil_of_length_eq_zero hz
    go_wp2_with fail
    refine (Tryz.slices_Sort_int_none none 0 w1).mono ?_; rintro e w' ⟨rfl, rfl⟩
    go_wp2
    go_ret
    exact ⟨_, rfl, by simpa using ho, k⟩
  · have hH : Holds (Value.int .i64) w1 gb 0 l.toArray := holds_of_block_i hgb (by simpa using r4)
    have cS := Tryz.slices_Sort_int gb 0 cap' l w1 hH (Array.getElem?_eq_some_iff.1 hgb).1 (by omega)
    obtain ⟨len, hlen⟩ : ∃ len, len = l.length := ⟨_, rfl⟩
    have HO : Hid (∀ n os, (grow (putRow (Value.int .i64) (Sort.ahead w1 n) gb 0 (l.mergeSort fun x y => decide (x ≤ y)).toArray) os).ownsRow w.heap.size 3 1 (.slice (some ⟨gb, 0, none⟩) len cap') l.length ((l.mergeSort fun x y => decide (x ≤ y)).map (Value.int .i64)) ∧ Kp w (grow (putRow (Value.int .i64) (Sort.ahead w1 n) gb 0 (l.mergeSort fun x y => decide (x ≤ y)).toArray) os)) := fun n os => by
      rw [hlen]
      exact ⟨ownsRow_sorted_i (by simp) hbase hgb r1 r2 r3, kp_grown k (grownBy_sorted_i _) hbase⟩
    rw [← hlen] at cS ⊢
    clear hH ho hgb r3 r4 k hl ha hb hlen
    go_wp2_with fail
    refine cS.mono ?_; rintro e w' ⟨rfl, n, os, rfl⟩
    go_wp2
    go_ret
    exact ⟨.slice (some ⟨gb, 0, none⟩) len cap', rfl, HO.out n os⟩

theorem compact_le (l : List Int) : (Lib.compact l).length ≤ l.length := by
  unfold Lib.compact Lib.compactUpTo
  rw [List.length_map]
  exact Nat.le_trans (List.length_filter_le _ _) (by simp)
set_option maxHeartbeats 1000000 in
theorem distinct_any (v : Value) (l : List Int) (hl : l.length * 8 ≤ 140737488355328) (w : World) (h : IntsIn w v l) :
    Calls Tryz.prog 21 #[v] w fun e w' => ∃ v', e = .returned v' ∧ IntsAt w' w.heap.size v' (dst l) ∧ Kp w w' := by
  have key : ∀ (a : Option Addr) (b off cap : Nat), (0 < l.length → a = some ⟨b, off, none⟩) → (∀ j, j < l.length → w.cell? ⟨b, off + j, none⟩ = some (.int .i64 (l.getD j 0))) →
      Calls Tryz.prog 21 #[.slice a l.length cap] w fun e w' => ∃ v', e = .returned v' ∧ IntsAt w' w.heap.size v' (dst l) ∧ Kp w w' := by
    intro a b off cap ha hc
    have hb : 0 < l.length → b < w.heap.size := fun h0 => World.block_lt_of_cell? w _ (hc 0 h0)
    have k1 : Kp w (w.alloc (.cells #[.slice a l.length cap] 22)) := (Kp.refl w).alloc _
    have H := sorted_any w.heap.size b off cap a l hl ha (w.alloc (.cells #[.slice a l.length cap] 22)) (fun h0 => by have := hb h0; simp; omega) (by simp) (by rw [World.cell?_alloc_at _ _ _ _ rfl]; rfl) (fun j hj => k1.held (hc j hj))
    have HL := List.length_mergeSort (le := fun x y : Int => decide (x ≤ y)) l
    unfold dst
    obtain ⟨s, hs⟩ : ∃ s, s = l.mergeSort fun x y => decide (x ≤ y) := ⟨_, rfl⟩
    rw [← hs] at H HL ⊢
    obtain ⟨len, hlen⟩ : ∃ len, len = l.length := ⟨_, rfl⟩
    rw [← hlen] at H HL k1 hl ⊢
    have hcl := compact_le s
    have HS : Hid (s.length = len) := HL
    clear hs hlen ha hc hb HL
    go_enter Tryz.func21, Tryz.ntmps21
    go_wp2_with fail
    refine (values_any _ _ _ _).mono ?_; rintro e w2 ⟨rfl, rfl⟩
    go_wp2_with fail
    refine H.mono ?_; rintro e w3 ⟨v', rfl, ho, k3⟩
    clear H
    have K3 := k1.trans k3
    have hsz := k1.size
    clear k1 k3
    rcases ho.2 with ⟨rfl, hz⟩ | ⟨gb, cap', cur, rfl, hbase, hgb, r1, r2, r3, r4⟩
    · have hs0 : s = [] := List.eq_nil_of_length_eq_zero (by rw [HS.out]; exact hz)
      subst hs0
      go_wp2_with fail
      refine (Tryz.slices_Compact_int_empty none 0 w3).mono ?_; rintro e w' ⟨rfl, rfl⟩
      go_wp2
      go_ret
      exact ⟨_, rfl, .empty _ _ (by unfold maxLen; omega), K3⟩
    · have hH : Holds (Value.int .i64) w3 gb 0 s.toArray := holds_of_block_i hgb (by rw [HS.out]; simpa using r4)
      have cS := Tryz.slices_Compact_int gb 0 cap' s w3 hH (by rw [HS.out]; unfold maxLen at r2; omega) (by rw [HS.out]; exact r1)
      rw [HS.out] at cS
      have HO : Hid (∀ q, IntsAt (putRow (Value.int .i64) (Sort.ahead w3 q) gb 0 (Lib.compact s ++ List.replicate (len - (Lib.compact s).length) 0).toArray) w.heap.size (.slice (some ⟨gb, 0, none⟩) (Lib.compact s).length cap') (Lib.compact s) ∧ Kp w (putRow (Value.int .i64) (Sort.ahead w3 q) gb 0 (Lib.compact s ++ List.replicate (len - (Lib.compact s).length) 0).toArray)) := fun q => by
        have hl2 : (Lib.compact s ++ List.replicate (len - (Lib.compact s).length) 0).length = s.length := by rw [List.length_append, List.length_replicate]; have := HS.out; omega
        have o2 := ownsRow_sorted_i (n := q) (os := #[]) (base := w.heap.size) hl2 (by omega) hgb (by rw [HS.out]; exact r1) r2 r3
        rw [grow_empty] at o2
        have g2 := grownBy_sorted_i (w := w3) (g := gb) (n := q) (os := #[]) (Lib.compact s ++ List.replicate (len - (Lib.compact s).length) 0).toArray
        rw [grow_empty] at g2
        refine ⟨?_, kp_grown K3 g2 (by omega)⟩
        by_cases h0 : (Lib.compact s).length = 0
        · have e0 : Lib.compact s = [] := List.eq_nil_of_length_eq_zero h0
          rw [h0]
          exact e0 ▸ .empty _ _ r2
        · refine .some gb cap' _ (by omega) (by have := HS.out; omega) r2 (by omega) fun i hi => ?_
          rw [o2.cellAt i (by omega), List.getElem?_map, List.getElem?_append_left hi, List.getElem?_eq_getElem hi, List.getD_eq_getElem?_getD, List.getElem?_eq_getElem hi]; rfl
      obtain ⟨n2, hn2⟩ : ∃ n2, n2 = (Lib.compact s).length := ⟨_, rfl⟩
      rw [← hn2] at cS HO
      clear hH ho hgb r3 r4 hcl hn2
      go_wp2_with fail
      refine cS.mono ?_; rintro e w' ⟨rfl, q, rfl⟩
      go_wp2
      go_ret
      exact ⟨_, rfl, HO.out q⟩
  cases h with
  | empty a cap h => exact key a 0 0 cap (fun h => absurd h (by simp)) (fun j hj => absurd hj (by simp))
  | some b off cap l h0 h1 h2 hc => exact key _ b off cap (fun _ => rfl) hc

end Go.Proofs.YtbcmgogfpboibaaGreatDoor
