/-
  Lost columns brought back (layer 5): contracts. Conditions: that row and fixer lie in memory.
-/
import Derived.Test.YtonooelffokfkaaGreatDoorZSyn
import Derived.Lib.SlicesCompact
import Derived.Test.YtonooelffokfkaaGreatDoorZShelf
import Derived.Maps.AppendAt
import Derived.WalkKit
import Derived.Deep.RegionHeld3
import Derived.BigQuiet
import Derived.Deep.OwnRows
import Derived.Test.YtonooelffokfkaaGreatDoorRows
import Derived.ProofKit
import Derived.LaidMore
import Derived.OpenShut
import Derived.Stop.Joined
namespace Go.Proofs.YtonooelffokfkaaGreatDoor

/-- the numbers of a list, rising, each of them once. -/
def dst (l : List Int) : List Int := Lib.compact (l.mergeSort fun x y => decide (x ≤ y))
theorem sort_le (l : List Int) : (l.mergeSort fun x y => decide (x ≤ y)).Pairwise (fun x y => x ≤ y) := by
  have h := List.pairwise_mergeSort (le := fun x y : Int => decide (x ≤ y)) (fun a b c h1 h2 => by simp at h1 h2 ⊢; omega) (fun a b => by simp; omega) l
  exact h.imp (fun h => by simpa using h)
theorem at_le {d : List Int} (h : d.Pairwise (fun x y => x ≤ y)) {i j : Nat} (hij : i ≤ j) (hj : j < d.length) : d.toArray[i]! ≤ d.toArray[j]! := by
  rcases Nat.lt_or_eq_of_le hij with h' | rfl
  · have := List.pairwise_iff_getElem.1 h i j (by omega) hj h'
    simpa [hj, show i < d.length by omega] using this
  · exact Int.le_refl _
theorem compact_lt {d : List Int} (h : d.Pairwise (fun x y => x ≤ y)) : (Lib.compact d).Pairwise (fun x y => x < y) := by
  unfold Lib.compact Lib.compactUpTo
  rw [List.pairwise_map, List.pairwise_filter]
  refine List.Pairwise.imp_of_mem ?_ (List.pairwise_lt_range (n := d.length))
  intro i j hi hj hij _ hk
  rw [List.mem_range] at hi hj
  unfold Lib.keeps at hk
  have h1 := at_le h (show i ≤ j - 1 by omega) (by omega)
  have h2 := at_le h (show j - 1 ≤ j by omega) hj
  have h3 : d.toArray[j]! ≠ d.toArray[j - 1]! := by
    rcases of_decide_eq_true hk with h0 | h0
    · omega
    · exact h0
  omega
theorem compact_at (d : List Int) : ∀ j, j < d.length → d.toArray[j]! ∈ Lib.compact d
  | j, hj => by
    by_cases hk : Lib.keeps d.toArray j = true
    · unfold Lib.compact Lib.compactUpTo
      exact List.mem_map.2 ⟨j, List.mem_filter.2 ⟨List.mem_range.2 hj, hk⟩, rfl⟩
    · have h0 : ¬ (j = 0 ∨ d.toArray[j]! ≠ d.toArray[j - 1]!) := fun h => hk (decide_eq_true h)
      have h1 : d.toArray[j]! = d.toArray[j - 1]! := Decidable.not_not.1 fun h => h0 (.inr h)
      have h2 : 0 < j := Nat.pos_of_ne_zero fun h => h0 (.inl h)
      rw [h1]
      exact compact_at d (j - 1) (by omega)
  termination_by j => j
theorem compact_mem (d : List Int) (x : Int) : x ∈ Lib.compact d ↔ x ∈ d := by
  constructor
  · intro h
    unfold Lib.compact Lib.compactUpTo at h
    obtain ⟨j, hj, rfl⟩ := List.mem_map.1 h
    have hl := List.mem_range.1 (List.mem_filter.1 hj).1
    simp [hl]
  · intro h
    obtain ⟨j, hj, rfl⟩ := List.mem_iff_getElem.1 h
    have := compact_at d j hj
    simpa [hj] using this
theorem dst_lt (l : List Int) : (dst l).Pairwise (fun x y => x < y) := compact_lt (sort_le l)
theorem dst_mem (l : List Int) (x : Int) : x ∈ dst l ↔ x ∈ l := by unfold dst; rw [compact_mem, List.mem_mergeSort]
theorem rising_ext : ∀ {a b : List Int}, a.Pairwise (fun x y => x < y) → b.Pairwise (fun x y => x < y) → (∀ x, x ∈ a ↔ x ∈ b) → a = b
  | [], [], _, _, _ => rfl
  | [], y :: b, _, _, h => absurd ((h y).2 (by simp)) (by simp)
  | x :: a, [], _, _, h => absurd ((h x).1 (by simp)) (by simp)
  | x :: a, y :: b, ha, hb, h => by
    obtain ⟨ha1, ha2⟩ := List.pairwise_cons.1 ha
    obtain ⟨hb1, hb2⟩ := List.pairwise_cons.1 hb
    have e : x = y := by
      rcases List.mem_cons.1 ((h x).1 (by simp)) with e | hx
      · exact e
      · rcases List.mem_cons.1 ((h y).2 (by simp)) with e | hy
        · exact e.symm
        · have := ha1 y hy; have := hb1 x hx; omega
    subst e
    congr 1
    refine rising_ext ha2 hb2 fun z => ?_
    constructor
    · intro hz
      rcases List.mem_cons.1 ((h z).1 (List.mem_cons_of_mem _ hz)) with e | h'
      · have := ha1 z hz; omega
      · exact h'
    · intro hz
      rcases List.mem_cons.1 ((h z).2 (List.mem_cons_of_mem _ hz)) with e | h'
      · have := hb1 z hz; omega
      · exact h'
/-- the numbers below N that the list has. -/
def gn (N : Nat) (l : List Int) : List Nat := (List.range N).filter fun i => decide ((i : Int) ∈ l)
theorem gn_mem (N : Nat) (l : List Int) (i : Nat) : i ∈ gn N l ↔ i < N ∧ (i : Int) ∈ l := by unfold gn; rw [List.mem_filter, List.mem_range]; simp
theorem gn_lt (N : Nat) (l : List Int) : (gn N l).Pairwise (fun x y => x < y) := List.Pairwise.filter _ (List.pairwise_lt_range (n := N))
theorem dst_gn (N : Nat) (l : List Int) (h : ∀ x ∈ l, 0 ≤ x ∧ x < N) : dst l = (gn N l).map (fun i : Nat => (i : Int)) := by
  refine rising_ext (dst_lt l) ?_ fun x => ?_
  · rw [List.pairwise_map]; exact (gn_lt N l).imp (fun h => by omega)
  · rw [dst_mem, List.mem_map]
    constructor
    · intro hx
      obtain ⟨h0, h1⟩ := h x hx
      refine ⟨x.toNat, (gn_mem N l _).2 ⟨by omega, ?_⟩, by omega⟩
      rw [show ((x.toNat : Nat) : Int) = x by omega]; exact hx
    · rintro ⟨i, hi, rfl⟩
      exact ((gn_mem N l i).1 hi).2

end Go.Proofs.YtonooelffokfkaaGreatDoor

namespace Go.Proofs.YtonooelffokfkaaGreatDoor
open Go.RowKit Go.Shelf Go.Sort Plain

attribute [local go_sem] Oper.semAt_some

/-- the same in memory from block B on. -/
inductive IntsAt (w : World) (B : Nat) : Value → List Int → Prop
  | empty (a : Option Addr) (cap : Nat) (h : cap ≤ maxLen) : IntsAt w B (.slice a 0 cap) []
  | some (g cap : Nat) (l : List Int) (h0 : 0 < l.length) (h1 : l.length ≤ cap) (h2 : cap ≤ maxLen) (hB : B ≤ g) (hc : ∀ i, i < l.length → w.cell? ⟨g, i, none⟩ = Option.some (.int .i64 (l.getD i 0))) : IntsAt w B (.slice (Option.some ⟨g, 0, none⟩) l.length cap) l
theorem IntsAt.kept {w w' : World} {B : Nat} {v : Value} {l : List Int} (h : IntsAt w B v l) (k : Kp w w') : IntsAt w' B v l := by
  cases h with
  | empty a cap h => exact .empty a cap h
  | some g cap l h0 h1 h2 hB hc => exact .some g cap l h0 h1 h2 hB (fun i hi => k.held (hc i hi))
theorem IntsAt.mono {w : World} {B B' : Nat} {v : Value} {l : List Int} (h : IntsAt w B v l) (hb : B' ≤ B) : IntsAt w B' v l := by
  cases h with
  | empty a cap h => exact .empty a cap h
  | some g cap l h0 h1 h2 hB hc => exact .some g cap l h0 h1 h2 (Nat.le_trans hb hB) hc

theorem values_any (a : Option Addr) (len cap : Nat) (w : World) :
    Calls Tryz.prog 146 #[.slice a len cap] w fun e w' => e = .returned (.func (.func 172) #[] #[.pointer (some ⟨w.heap.size, 0, none⟩)]) ∧ w' = w.alloc (.cells #[.slice a len cap] 22) := by
  go_enter Tryz.func146, Tryz.ntmps146
  go_wp2
  go_ret
  exact ⟨rfl, rfl⟩

def encI (x : Int) : Array Value := #[.int .i64 x]

set_option maxRecDepth 100000 in
set_option maxHeartbeats 2000000 in
theorem val1_in (F : Fence) (m : Nat) (hf : F.fn 172) (hro : F.round = none) (hm : 1 ≤ m) (ll Bs b off cap n0 : Nat) (a : Option Addr) (l : List Int) (hl : l.length ≤ 9223372036854775807) (ha : 0 < l.length → a = some ⟨b, off, none⟩) (hb : 0 < l.length → b < n0) (J Jx : List Int → World → Prop)
    (hY : ∀ pre x W, J pre W → pre.length < l.length → YieldAt F (m - 1) Tryz.prog ll (encI x) W fun e W' =>
      (e = .returned (.bool true) ∧ J (pre ++ [x]) W' ∧ Below n0 W W') ∨ (e = .returned (.bool false) ∧ Jx (pre ++ [x]) W'))
    (W : World) (hB : W.cell? ⟨Bs, 0, none⟩ = some (.slice a l.length cap)) (hc : ∀ j, j < l.length → W.cell? ⟨b, off + j, none⟩ = some (.int .i64 (l.getD j 0))) (h0 : J [] W) :
    CallsIn F m Tryz.prog 172 #[.func (.yield ll) #[] #[], .pointer (some ⟨Bs, 0, none⟩)] W fun e W' => (∃ v, e = .returned v) ∧
      ((∃ ys, ys = l ∧ J ys W') ∨ (∃ pre, (∃ k, k ≤ l.length ∧ pre = l.take k) ∧ Jx pre W')) := by
  refine callsIn_of_wp Tryz.func172 rfl hf ?_ hro
  simp only [Tryz.ntmps172, List.size_toArray, List.length_cons, List.length_nil, Nat.reduceAdd, Nat.reduceSub, Array.replicate_succ, Array.replicate_zero, List.push_toArray, List.append_toArray, List.nil_append, List.cons_append]
  gi_wp2
  gi_loopw [7] (fun i wr => ∃ k : Nat, k ≤ l.length ∧ i = .int .i64 (k : Int) ∧ J (l.take k) wr ∧ Below n0 W wr) (fun i _ => l.length - (intOf i).toNat)
  case atStart => exact ⟨0, Nat.zero_le _, by go_num, h0, Below.refl _ _⟩
  case round =>
    obtain ⟨k, hk, rfl, hJs, hnx⟩ := hrel
    by_cases hlt : k < l.length
    · have hb' := hb (by omega)
      obtain rfl := ha (by omega)
      have hci : wr.cell? ⟨b, off + k, none⟩ = some (.int .i64 (l.getD k 0)) := (hnx.cell (p := ⟨b, off + k, none⟩) hb').trans (hc k hlt)
      have hyy := hY _ (l.getD k 0) wr hJs (by rw [List.length_take]; omega)
      rw [← take_succ_int l k hlt] at hyy
      unfold encI at hyy
      obtain ⟨x, hx⟩ : ∃ x, x = l.getD k 0 := ⟨_, rfl⟩
      rw [← hx] at hyy hci
      clear hx hc ha hb hb'
      obtain ⟨fn, tmps, assign, body, hy, hR⟩ := hyy
      gi_wp2
      refine hR.mono ?_
      rintro e W3 (⟨rfl, hJ3, hk3⟩ | ⟨rfl, hJx3⟩)
      · gi_wp2
        go_roundw
        case rel => exact ⟨k + 1, by omega, by go_num, hJ3, hnx.trans hk3⟩
        case measure => simp [intOf]; omega
      · gi_wp2
        refine bodyPost_ret (results_none rfl _ _ _) rfl ?_
        exact ⟨⟨_, rfl⟩, .inr ⟨_, ⟨k + 1, by omega, rfl⟩, hJx3⟩⟩
    · obtain rfl : k = l.length := by omega
      rw [List.take_length] at hJs
      gi_wp2
      go_end0
      exact ⟨⟨_, rfl⟩, .inl ⟨_, rfl, hJs⟩⟩

theorem val_stops (w : World) (F : Fence) (m : Nat) (hf : F.fn 172) (hro : F.round = none) (hm : 1 ≤ m) (Bs b off cap : Nat) (a : Option Addr) (l : List Int) (hl : l.length ≤ 9223372036854775807) (ha : 0 < l.length → a = some ⟨b, off, none⟩) (hb : 0 < l.length → b < w.heap.size) (hBs : Bs < w.heap.size)
    (hB : w.cell? ⟨Bs, 0, none⟩ = some (.slice a l.length cap)) (hc : ∀ j, j < l.length → w.cell? ⟨b, off + j, none⟩ = some (.int .i64 (l.getD j 0))) :
    SeqStopsK F m Tryz.prog 172 #[.pointer (some ⟨Bs, 0, none⟩)] encI (Below w.heap.size) (fun ys => ys = l) (fun pre => ∃ k, k ≤ l.length ∧ pre = l.take k) l.length w := fun ll J Jx W hW _ _ hY h0 =>
  val1_in F m hf hro hm ll Bs b off cap w.heap.size a l hl ha hb J Jx hY W ((hW.cell (p := ⟨Bs, 0, none⟩) (by show Bs < _; omega)).trans hB) (fun j hj => (hW.cell (p := ⟨b, off + j, none⟩) (by show b < _; exact hb (by omega))).trans (hc j hj)) h0

set_option maxRecDepth 100000 in
set_option maxHeartbeats 4000000 in
theorem appseq_any (Bs b off cap : Nat) (a : Option Addr) (l : List Int) (hl : l.length * 8 ≤ 140737488355328) (ha : 0 < l.length → a = some ⟨b, off, none⟩) (w : World) (hb : 0 < l.length → b < w.heap.size) (hBs : Bs < w.heap.size)
    (hB : w.cell? ⟨Bs, 0, none⟩ = some (.slice a l.length cap)) (hc : ∀ j, j < l.length → w.cell? ⟨b, off + j, none⟩ = some (.int .i64 (l.getD j 0))) :
    Calls Tryz.prog 164 #[.slice none 0 0, .func (.func 172) #[] #[.pointer (some ⟨Bs, 0, none⟩)]] w fun e w' => ∃ v, e = .returned v ∧ w'.ownsRow w.heap.size 3 1 v l.length (l.map (Value.int .i64)) ∧ Kp w w' := by
  obtain ⟨i0, hi, hz0, hz1, hz2⟩ := info_parts info_int
  refine (callsIn_wide (n := 3)).1 ?_
  refine callsIn_of_wp_marks Tryz.func164 rfl trivial ?_ rfl
  simp only [Tryz.ntmps164, List.size_toArray, List.length_cons, List.length_nil, Nat.reduceAdd, Nat.reduceSub, Array.replicate_succ, Array.replicate_zero, List.push_toArray, List.append_toArray, List.nil_append, List.cons_append]
  gi_wp2
  obtain ⟨W0, hW0⟩ : ∃ W0, W0 = w.alloc (.cells #[.slice none 0 0] 22) := ⟨_, rfl⟩
  have bS : Boxed W0 w.heap.size 22 (.slice none 0 0) := by rw [hW0]; exact Boxed.new w 22 _
  have K0 : Kp w W0 := by rw [hW0]; exact (Kp.refl w).alloc _
  have hsz : W0.heap.size = w.heap.size + 1 := by rw [hW0]; simp
  rw [← hW0]
  clear hW0
  refine wpIn_rangeFunc_ownF rfl (by omega) (gf := 172) (lb := #[.pointer (some ⟨Bs, 0, none⟩)]) rfl trivial (enters_of Tryz.func172 (by kernel_rfl) rfl)
    (val_stops w Fence.wide 2 trivial rfl (by omega) Bs b off cap a l (by omega) ha hb hBs hB hc) belowK_t (belowK_b (by omega)) K0 (fun _ => rfl)
    (fun (pre : List Int) W => (∃ v, Boxed W w.heap.size 22 v ∧ W.ownsRow w.heap.size 3 1 v pre.length (pre.map (Value.int .i64)) ∧ True) ∧ Below w.heap.size w W)
    (fun _ _ _ => False)
    (OwnFrom.and (Own.from (holdsRow_own w.heap.size w.heap.size 22 3 1 (fun pre : List Int => pre.length) (fun pre : List Int => pre.map (Value.int .i64)) (fun _ _ => True)) _) (ownFrom_below (Nat.le_refl _) (by omega)))
    (fun _ _ _ _ _ hs _ _ => hs)
    ⟨⟨_, bS, World.ownsRow_nil _ _ _ _, trivial⟩, K0⟩
    (fun x => { tmps := #[.slice none 0 0, .func (.func 172) #[] #[.pointer (some ⟨Bs, 0, none⟩)], .pointer (some ⟨w.heap.size, 0, none⟩), undef, .slice none 0 0, .int .i64 x, .func (.func 172) #[] #[.pointer (some ⟨Bs, 0, none⟩)], .int .i64 x, undef, undef, undef, undef, undef], defers := [] }) ?assign ?body ?done ?stop
  case assign =>
    intro l x W K hK
    unfold encI
    gi_wp2
    exact hK
  case body =>
    rintro ll pre x W ⟨⟨v, hv, hrow, _⟩, hB'⟩ hlt
    have hbc := hv.cell
    gi_wp2_with (gi_at_builtin; refine wpListIn_append_own _ rfl _ _ 22 rfl w.heap.size 3 i0 (.int .i64 0) 1 8 Tryz.underlying22 hi hz0 hz1 hz2 rfl (by decide) _ _ _ rfl (hrow.alloc _) ⟨W.heap.size, 0, none⟩ 1 1 [.int .i64 x] rfl rfl (cell_one_new _ _ _) (by simp [Value.oneCell']) (by unfold maxLen; omega) (by omega) (by have := hB'.size; simp; omega) ?_; intro v' w1 hown' hgrow _; obtain ⟨g', cap', rfl⟩ := ownsRow_succ hown'; obtain ⟨hv1, hv2, hr2, hk2, hb2⟩ := hv.appended (by decide) hrow hB'.size (Nat.le_refl _) hown' hgrow; have hc1 := hv1.cell; have hf1 := hv1.frozen)
    exact ⟨hk2, hb2, ⟨_, hv2, by simpa using hr2, trivial⟩, hB'.trans hb2⟩
  case done =>
    rintro D ys W hD rfl ⟨⟨v, hv, hrow, _⟩, hB'⟩ hK
    have hbc := hv.cell
    gi_wp2
    refine ⟨by simp, .inl ⟨_, _, rfl, run_takeDeferred hK, ?_⟩⟩
    exact ⟨_, results_tmp rfl _ _ _, v, rfl, hrow.kept (grownBy_putObj' _ D (.deferred none)) (ownsRow_ne_a hrow hK (fun cur e => by cases e)), Below.trans hB' (belowK_b (w := w) (Nat.le_refl _) W D _ _ (by omega) hK rfl rfl)⟩
  case stop =>
    rintro D c pre W _ _ h _
    exact h.elim

set_option maxHeartbeats 1000000 in
theorem collect_any (Bs b off cap : Nat) (a : Option Addr) (l : List Int) (hl : l.length * 8 ≤ 140737488355328) (ha : 0 < l.length → a = some ⟨b, off, none⟩) (w : World) (hb : 0 < l.length → b < w.heap.size) (hBs : Bs < w.heap.size)
    (hB : w.cell? ⟨Bs, 0, none⟩ = some (.slice a l.length cap)) (hc : ∀ j, j < l.length → w.cell? ⟨b, off + j, none⟩ = some (.int .i64 (l.getD j 0))) :
    Calls Tryz.prog 128 #[.func (.func 172) #[] #[.pointer (some ⟨Bs, 0, none⟩)]] w fun e w' => ∃ v, e = .returned v ∧ w'.ownsRow w.heap.size 3 1 v l.length (l.map (Value.int .i64)) ∧ Kp w w' := by
  have H := appseq_any Bs b off cap a l hl ha w hb hBs hB hc
  clear hB hc
  go_enter Tryz.func128, Tryz.ntmps128
  go_wp2_with fail
  refine H.mono ?_; rintro e w' ⟨v, rfl, ho, k⟩
  go_wp2
  go_ret
  exact ⟨v, rfl, ho, k⟩
theorem kp_grown {w W W' : World} {g : Nat} (k : Kp w W) (h : W.grownBy W' (some g)) (hg : w.heap.size ≤ g) : Kp w W' := Below.grown k h k.size (fun j hj => by cases hj; exact hg)
set_option maxHeartbeats 1000000 in
/-- what Sorted and Compact leave: a slice of the call's own whose first cells are the numbers. -/
theorem sorted_any (Bs b off cap : Nat) (a : Option Addr) (l : List Int) (hl : l.length * 8 ≤ 140737488355328) (ha : 0 < l.length → a = some ⟨b, off, none⟩) (w : World) (hb : 0 < l.length → b < w.heap.size) (hBs : Bs < w.heap.size)
    (hB : w.cell? ⟨Bs, 0, none⟩ = some (.slice a l.length cap)) (hc : ∀ j, j < l.length → w.cell? ⟨b, off + j, none⟩ = some (.int .i64 (l.getD j 0))) :
    Calls Tryz.prog 74 #[.func (.func 172) #[] #[.pointer (some ⟨Bs, 0, none⟩)]] w fun e w' => ∃ v, e = .returned v ∧ w'.ownsRow w.heap.size 3 1 v l.length ((l.mergeSort fun x y => decide (x ≤ y)).map (Value.int .i64)) ∧ Kp w w' := by
  have H := collect_any Bs b off cap a l hl ha w hb hBs hB hc
  clear hB hc
  go_enter Tryz.func74, Tryz.ntmps74
  go_wp2_with fail
  refine H.mono ?_; rintro e w1 ⟨v, rfl, ho, k⟩
  clear H
  rcases ho.2 with ⟨rfl, hz⟩ | ⟨gb, cap', cur, rfl, hbase, hgb, r1, r2, r3, r4⟩
  · obtain rfl : l = [] := List.eq_nil_of_length_eq_zero hz
    go_wp2_with fail
    refine (Tryz.slices_Sort_int_none none 0 w1).mono ?_; rintro e w' ⟨rfl, rfl⟩
    go_wp2
    go_ret
    exact ⟨_, rfl, by simpa using ho, k⟩
  · have hH : Holds (Value.int .i64) w1 gb 0 l.toArray := holds_of_block_i hgb (by simpa using r4)
    have cS := Tryz.slices_Sort_int gb 0 cap' l w1 hH (Array.getElem?_eq_some_iff.1 hgb).1 (by omega)
    obtain ⟨len, hlen⟩ : ∃ len, len = l.length := ⟨_, rfl⟩
    have HO : Hid (∀ n os, (grow (putRow (Value.int .i64) (Sort.ahead w1 n) gb 0 (l.mergeSort fun x y => decide (x ≤ y)).toArray) os).ownsRow w.heap.size 3 1 (.slice (some ⟨gb, 0, none⟩) len cap') l.length ((l.mergeSort fun x y => decide (x ≤ y)).map (Value.int .i64)) ∧ Kp w (grow (putRow (Value.int .i64) (Sort.ahead w1 n) gb 0 (l.mergeSort fun x y => decide (x ≤ y)).toArray) os)) := fun n os => by
      rw [hlen]
      exact ⟨ownsRow_sorted_i (by simp) hbase hgb r1 r2 r3, kp_grown k (grownBy_sorted_i _) hbase⟩
    rw [← hlen] at cS ⊢
    clear hH ho hgb r3 r4 k hl ha hb hlen
    go_wp2_with fail
    refine cS.mono ?_; rintro e w' ⟨rfl, n, os, rfl⟩
    go_wp2
    go_ret
    exact ⟨.slice (some ⟨gb, 0, none⟩) len cap', rfl, HO.out n os⟩

theorem compact_le (l : List Int) : (Lib.compact l).length ≤ l.length := by
  unfold Lib.compact Lib.compactUpTo
  rw [List.length_map]
  exact Nat.le_trans (List.length_filter_le _ _) (by simp)
set_option maxHeartbeats 1000000 in
theorem distinct_any (v : Value) (l : List Int) (hl : l.length * 8 ≤ 140737488355328) (w : World) (h : IntsIn w v l) :
    Calls Tryz.prog 111 #[v] w fun e w' => ∃ v', e = .returned v' ∧ IntsAt w' w.heap.size v' (dst l) ∧ Kp w w' := by
  have key : ∀ (a : Option Addr) (b off cap : Nat), (0 < l.length → a = some ⟨b, off, none⟩) → (∀ j, j < l.length → w.cell? ⟨b, off + j, none⟩ = some (.int .i64 (l.getD j 0))) →
      Calls Tryz.prog 111 #[.slice a l.length cap] w fun e w' => ∃ v', e = .returned v' ∧ IntsAt w' w.heap.size v' (dst l) ∧ Kp w w' := by
    intro a b off cap ha hc
    have hb : 0 < l.length → b < w.heap.size := fun h0 => World.block_lt_of_cell? w _ (hc 0 h0)
    have k1 : Kp w (w.alloc (.cells #[.slice a l.length cap] 22)) := (Kp.refl w).alloc _
    have H := sorted_any w.heap.size b off cap a l hl ha (w.alloc (.cells #[.slice a l.length cap] 22)) (fun h0 => by have := hb h0; simp; omega) (by simp) (by rw [World.cell?_alloc_at _ _ _ _ rfl]; rfl) (fun j hj => k1.held (hc j hj))
    have HL := List.length_mergeSort (le := fun x y : Int => decide (x ≤ y)) l
    unfold dst
    obtain ⟨s, hs⟩ : ∃ s, s = l.mergeSort fun x y => decide (x ≤ y) := ⟨_, rfl⟩
    rw [← hs] at H HL ⊢
    obtain ⟨len, hlen⟩ : ∃ len, len = l.length := ⟨_, rfl⟩
    rw [← hlen] at H HL k1 hl ⊢
    have hcl := compact_le s
    have HS : Hid (s.length = len) := HL
    clear hs hlen ha hc hb HL
    go_enter Tryz.func111, Tryz.ntmps111
    go_wp2_with fail
    refine (values_any _ _ _ _).mono ?_; rintro e w2 ⟨rfl, rfl⟩
    go_wp2_with fail
    refine H.mono ?_; rintro e w3 ⟨v', rfl, ho, k3⟩
    clear H
    have K3 := k1.trans k3
    have hsz := k1.size
    clear k1 k3
    rcases ho.2 with ⟨rfl, hz⟩ | ⟨gb, cap', cur, rfl, hbase, hgb, r1, r2, r3, r4⟩
    · have hs0 : s = [] := List.eq_nil_of_length_eq_zero (by rw [HS.out]; exact hz)
      subst hs0
      go_wp2_with fail
      refine (Tryz.slices_Compact_int_empty none 0 w3).mono ?_; rintro e w' ⟨rfl, rfl⟩
      go_wp2
      go_ret
      exact ⟨_, rfl, .empty _ _ (by unfold maxLen; omega), K3⟩
    · have hH : Holds (Value.int .i64) w3 gb 0 s.toArray := holds_of_block_i hgb (by rw [HS.out]; simpa using r4)
      have cS := Tryz.slices_Compact_int gb 0 cap' s w3 hH (by rw [HS.out]; unfold maxLen at r2; omega) (by rw [HS.out]; exact r1)
      rw [HS.out] at cS
      have HO : Hid (∀ q, IntsAt (putRow (Value.int .i64) (Sort.ahead w3 q) gb 0 (Lib.compact s ++ List.replicate (len - (Lib.compact s).length) 0).toArray) w.heap.size (.slice (some ⟨gb, 0, none⟩) (Lib.compact s).length cap') (Lib.compact s) ∧ Kp w (putRow (Value.int .i64) (Sort.ahead w3 q) gb 0 (Lib.compact s ++ List.replicate (len - (Lib.compact s).length) 0).toArray)) := fun q => by
        have hl2 : (Lib.compact s ++ List.replicate (len - (Lib.compact s).length) 0).length = s.length := by rw [List.length_append, List.length_replicate]; have := HS.out; omega
        have o2 := ownsRow_sorted_i (n := q) (os := #[]) (base := w.heap.size) hl2 (by omega) hgb (by rw [HS.out]; exact r1) r2 r3
        rw [grow_empty] at o2
        have g2 := grownBy_sorted_i (w := w3) (g := gb) (n := q) (os := #[]) (Lib.compact s ++ List.replicate (len - (Lib.compact s).length) 0).toArray
        rw [grow_empty] at g2
        refine ⟨?_, kp_grown K3 g2 (by omega)⟩
        by_cases h0 : (Lib.compact s).length = 0
        · have e0 : Lib.compact s = [] := List.eq_nil_of_length_eq_zero h0
          rw [h0]
          exact e0 ▸ .empty _ _ r2
        · refine .some gb cap' _ (by omega) (by have := HS.out; omega) r2 (by omega) fun i hi => ?_
          rw [o2.cellAt i (by omega), List.getElem?_map, List.getElem?_append_left hi, List.getElem?_eq_getElem hi, List.getD_eq_getElem?_getD, List.getElem?_eq_getElem hi]; rfl
      obtain ⟨n2, hn2⟩ : ∃ n2, n2 = (Lib.compact s).length := ⟨_, rfl⟩
      rw [← hn2] at cS HO
      clear hH ho hgb r3 r4 hcl hn2
      go_wp2_with fail
      refine cS.mono ?_; rintro e w' ⟨rfl, q, rfl⟩
      go_wp2
      go_ret
      exact ⟨_, rfl, HO.out q⟩
  cases h with
  | empty a cap h => exact key a 0 0 cap (fun h => absurd h (by simp)) (fun j hj => absurd hj (by simp))
  | some b off cap l h0 h1 h2 hc => exact key _ b off cap (fun _ => rfl) hc

end Go.Proofs.YtonooelffokfkaaGreatDoor

namespace Go.Proofs.YtonooelffokfkaaGreatDoor
open Go.RowKit Plain

/-- the kind of at most two different columns: P and Q among them, two, one. -/
def kdB (p q two one : Bool) : Int := if p && q then 6 else if p && two then 4 else if q && two then 5 else if two then 7 else if p then 2 else if q then 3 else if one then 1 else 0
def kdG (d : Int) (g : List Int) : Int := kdB (g.contains d) (g.contains (d + 1)) (g.length == 2) (g.length == 1)
def inB (d : Int) (l : List Int) : Bool := l.all fun x => decide (0 ≤ x ∧ x < d + 2)
def srE (d : Int) (l : List Int) : Int := if d < 2 ∨ 30 < d then 3 else if inB d l = false then 3 else if 2 < (dst l).length then 20 else 0
def srK (d : Int) (l : List Int) : Int := if srE d l = 0 then kdG d (dst l) else 0

theorem IntsAt.slice {w : World} {B : Nat} {v : Value} {l : List Int} (h : IntsAt w B v l) : ∃ a cap, v = .slice a l.length cap := by
  cases h with
  | empty a cap h => exact ⟨a, cap, rfl⟩
  | some g cap l h0 h1 h2 hB hc => exact ⟨_, cap, rfl⟩
theorem contains_any (v : Value) (l : List Int) (x : Int) (B : Nat) (w : World) (h : IntsAt w B v l) : Calls Tryz.prog 69 #[v, .int .i64 x] w fun e w' => e = .returned (.bool (l.contains x)) ∧ w' = w := by
  cases h with
  | empty a cap h => exact Tryz.slices_Contains_int_empty a cap x w
  | some g cap l h0 h1 h2 hB hc =>
    have H := Tryz.slices_Contains_int g 0 l.length cap l x w (Nat.le_refl _) (by unfold maxLen at h2; omega) (fun j hj => by rw [Nat.zero_add]; exact hc j hj)
    rw [List.take_length] at H
    exact H

set_option maxRecDepth 100000 in
set_option maxHeartbeats 2000000 in
theorem kind_any (d : Int) (h1 : 0 ≤ d) (h2 : d ≤ 30) (v : Value) (l : List Int) (B : Nat) (w : World) (h : IntsAt w B v l) : Calls Tryz.prog 112 #[.int .i64 d, v] w fun e w' => e = .returned (.int .i64 (kdG d l)) ∧ w' = w := by
  have H := fun x => contains_any v l x B w h
  obtain ⟨a, cap, rfl⟩ := h.slice
  clear h
  unfold kdG
  have H1 := H d
  have H2 := H (d + 1)
  clear H
  obtain ⟨p, hp⟩ : ∃ p, p = l.contains d := ⟨_, rfl⟩
  obtain ⟨q, hq⟩ : ∃ q, q = l.contains (d + 1) := ⟨_, rfl⟩
  obtain ⟨n, hn⟩ : ∃ n, n = l.length := ⟨_, rfl⟩
  rw [← hp, ← hn] at H1
  rw [← hq, ← hn] at H2
  rw [← hp, ← hq, ← hn]
  clear hp hq hn
  have key : ∀ t o : Bool, ((n : Int) == 2) = t → ((n : Int) == 1) = o → (n == 2) = t → (n == 1) = o → Calls Tryz.prog 112 #[.int .i64 d, .slice a n cap] w fun e w' => e = .returned (.int .i64 (kdB p q (n == 2) (n == 1))) ∧ w' = w := by
    intro t o ht ho ht' ho'
    rw [ht', ho']
    clear ht' ho'
    cases p <;> cases q <;> cases t <;> cases o
    all_goals
      go_enter Tryz.func112, Tryz.ntmps112
      go_wp2_with fail
      refine H1.mono ?_; rintro e w1 ⟨rfl, rfl⟩
      go_wp2_with fail
      refine H2.mono ?_; rintro e w2 ⟨rfl, rfl⟩
      go_wp2
      go_ret
      exact ⟨rfl, rfl⟩
  have e2 : (n == 2) = ((n : Int) == 2) := by
    rw [Bool.eq_iff_iff]; simp; omega
  have e1 : (n == 1) = ((n : Int) == 1) := by
    rw [Bool.eq_iff_iff]; simp; omega
  exact key _ _ rfl rfl e2 e1

theorem sr_out {d : Int} (h : d < 2 ∨ 30 < d) (l : List Int) : srE d l = 3 ∧ srK d l = 0 := by
  have e : srE d l = 3 := by unfold srE; rw [if_pos h]
  exact ⟨e, by unfold srK; rw [e]; rfl⟩
theorem sr_not {d : Int} (h1 : 2 ≤ d) (h2 : d ≤ 30) {l : List Int} {j : Nat} (hj : j < l.length) (h : ¬ (0 ≤ l.getD j 0 ∧ l.getD j 0 < d + 2)) : srE d l = 3 ∧ srK d l = 0 := by
  have hb : inB d l = false := by
    unfold inB
    rw [Bool.eq_false_iff]
    intro ha
    have := List.all_eq_true.1 ha (l.getD j 0) (by rw [List.getD_eq_getElem?_getD, List.getElem?_eq_getElem hj]; simp)
    exact h (of_decide_eq_true this)
  have e : srE d l = 3 := by unfold srE; rw [if_neg (by omega), if_pos hb]
  exact ⟨e, by unfold srK; rw [e]; rfl⟩
theorem sr_in {d : Int} {l : List Int} (h : ∀ j, j < l.length → 0 ≤ l.getD j 0 ∧ l.getD j 0 < d + 2) : inB d l = true := by
  unfold inB
  refine List.all_eq_true.2 fun x hx => ?_
  obtain ⟨j, hj, rfl⟩ := List.mem_iff_getElem.1 hx
  have := h j hj
  rw [List.getD_eq_getElem?_getD, List.getElem?_eq_getElem hj] at this
  exact decide_eq_true this
theorem sr_many {d : Int} (h1 : 2 ≤ d) (h2 : d ≤ 30) {l : List Int} (h : inB d l = true) (hm : 2 < (dst l).length) : srE d l = 20 ∧ srK d l = 0 := by
  have e : srE d l = 20 := by unfold srE; rw [if_neg (by omega), h, if_neg (by simp), if_pos hm]
  exact ⟨e, by unfold srK; rw [e]; rfl⟩
theorem sr_ok {d : Int} (h1 : 2 ≤ d) (h2 : d ≤ 30) {l : List Int} (h : inB d l = true) (hm : ¬ 2 < (dst l).length) : srE d l = 0 ∧ srK d l = kdG d (dst l) := by
  have e : srE d l = 0 := by unfold srE; rw [if_neg (by omega), h, if_neg (by simp), if_neg hm]
  exact ⟨e, by unfold srK; rw [e]; rfl⟩

set_option maxRecDepth 100000 in
set_option maxHeartbeats 2000000 in
theorem sort_any (d : Int) (v : Value) (l : List Int) (hl : l.length * 8 ≤ 140737488355328) (w : World) (h : IntsIn w v l) :
    Calls Tryz.prog 62 #[.int .i64 d, v] w fun e w' => e = .returned (.tuple #[.int .i64 (srK d l), .int .i64 (srE d l)]) ∧ Kp w w' := by
  by_cases ho : d < 2
  · obtain ⟨e1, e2⟩ := sr_out (.inl ho) l
    rw [e1, e2]
    clear e1 e2
    go_enter Tryz.func62, Tryz.ntmps62
    go_wp2
    go_ret2
    exact ⟨rfl, Kp.refl _⟩
  by_cases ho2 : 30 < d
  · obtain ⟨e1, e2⟩ := sr_out (.inr ho2) l
    rw [e1, e2]
    have ho' : 2 ≤ d := by omega
    clear e1 e2 ho
    go_enter Tryz.func62, Tryz.ntmps62
    go_wp2
    go_ret2
    exact ⟨rfl, Kp.refl _⟩
  have hd1 : 2 ≤ d := by omega
  have hd2 : d ≤ 30 := by omega
  clear ho ho2
  have HD := distinct_any v l hl w h
  have key : ∀ (a : Option Addr) (b off cap : Nat), v = .slice a l.length cap → (0 < l.length → a = some ⟨b, off, none⟩) → (∀ j, j < l.length → w.cell? ⟨b, off + j, none⟩ = some (.int .i64 (l.getD j 0))) →
      Calls Tryz.prog 62 #[.int .i64 d, v] w fun e w' => e = .returned (.tuple #[.int .i64 (srK d l), .int .i64 (srE d l)]) ∧ Kp w w' := by
    rintro a b off cap rfl ha hc
    clear h
    go_enter Tryz.func62, Tryz.ntmps62
    go_wp2
    go_loop [17] (fun i => ∃ k : Nat, k ≤ l.length ∧ i = .int .i64 k ∧ ∀ j, j < k → 0 ≤ l.getD j 0 ∧ l.getD j 0 < d + 2) (fun i => l.length - (intOf i).toNat)
    case atStart => exact ⟨0, Nat.zero_le _, rfl, fun j hj => absurd hj (by omega)⟩
    case round =>
      obtain ⟨k, hk, rfl, hA⟩ := hrel
      have HA : Hid (∀ j, j < k → 0 ≤ l.getD j 0 ∧ l.getD j 0 < d + 2) := hA
      clear hA
      by_cases hlt : k < l.length
      · obtain rfl := ha (by omega)
        have hck := hc k hlt
        have HN : Hid (¬ (0 ≤ l.getD k 0 ∧ l.getD k 0 < d + 2) → srE d l = 3 ∧ srK d l = 0) := sr_not hd1 hd2 hlt
        have HX : Hid (∀ j, j < k + 1 → j = k ∨ j < k) := fun j hj => by omega
        obtain ⟨x, hx⟩ : ∃ x, x = l.getD k 0 := ⟨_, rfl⟩
        have HE : Hid (x = l.getD k 0) := hx
        rw [← hx] at hck HN
        clear hx hc ha HD
        by_cases hx0 : x < 0
        · go_wp2
          go_ret2
          obtain ⟨e1, e2⟩ := HN.out (by omega)
          exact ⟨by rw [e1, e2]; rfl, Kp.refl _⟩
        · by_cases hx1 : d + 2 ≤ x
          · have hx0' : 0 ≤ x := by omega
            clear hx0
            go_wp2
            go_ret2
            obtain ⟨e1, e2⟩ := HN.out (by omega)
            exact ⟨by rw [e1, e2]; rfl, Kp.refl _⟩
          · have hx0' : 0 ≤ x := by omega
            have hx1' : x < d + 2 := by omega
            clear hx0 hx1
            go_wp2
            go_round
            case rel =>
              refine ⟨k + 1, by omega, by go_num, fun j hj => ?_⟩
              rcases HX.out j hj with rfl | h'
              · rw [← HE.out]; exact ⟨hx0', hx1'⟩
              · exact HA.out j h'
            case measure => simp [intOf]; omega
      · obtain rfl : k = l.length := by omega
        have hin := sr_in HA.out
        have HM : Hid (2 < (dst l).length → srE d l = 20 ∧ srK d l = 0) := sr_many hd1 hd2 hin
        have HO : Hid (¬ 2 < (dst l).length → srE d l = 0 ∧ srK d l = kdG d (dst l)) := sr_ok hd1 hd2 hin
        clear HA hin hc ha
        go_wp2_with fail
        refine HD.mono ?_; rintro e w1 ⟨v', rfl, hI, k1⟩
        clear HD
        obtain ⟨a', cap', rfl⟩ := hI.slice
        have HK := kind_any d (by omega) hd2 _ _ _ _ hI
        obtain ⟨G, hG⟩ : ∃ G, G = dst l := ⟨_, rfl⟩
        rw [← hG] at HM HO HK hI ⊢
        clear hI hG
        obtain ⟨n, hn⟩ : ∃ n, n = G.length := ⟨_, rfl⟩
        rw [← hn] at HM HO HK ⊢
        clear hn
        by_cases hm : 2 < n
        · clear HK HO
          go_wp2
          go_ret2
          obtain ⟨e1, e2⟩ := HM.out hm
          exact ⟨by rw [e1, e2]; rfl, k1⟩
        · go_wp2_with fail
          refine HK.mono ?_; rintro e w2 ⟨rfl, rfl⟩
          go_wp2
          go_ret2
          obtain ⟨e1, e2⟩ := HO.out hm
          exact ⟨by rw [e1, e2]; rfl, k1⟩
  cases h with
  | empty a cap h => exact key a 0 0 cap rfl (fun h => absurd h (by simp)) (fun j hj => absurd hj (by simp))
  | some b off cap l h0 h1 h2 hc => exact key _ b off cap rfl (fun _ => rfl) hc

end Go.Proofs.YtonooelffokfkaaGreatDoor

namespace Go.Proofs.YtonooelffokfkaaGreatDoor
open Go.RowKit Plain

/-- all of one length. -/
def Sz (n : Nat) (l : List ByteArray) : Prop := ∀ s ∈ l, s.size = n
theorem Sz.set {n : Nat} {l : List ByteArray} (h : Sz n l) (i : Nat) {t : ByteArray} (ht : t.size = n) : Sz n (l.set i t) := set_sizes h ht i
theorem Sz.take {n : Nat} {l : List ByteArray} (h : Sz n l) (k : Nat) : Sz n (l.take k) := fun s hs => h s (List.mem_of_mem_take hs)
theorem Sz.at {n : Nat} {l : List ByteArray} (h : Sz n l) (i : Nat) (hi : i < l.length) : (l.getD i noS).size = n := h _ (mem_of_at l i hi)

def lkP (n k : Nat) (Z : List ByteArray) : ByteArray := parS n (Z.take (k + 1))
def lkQ (n k : Nat) (Z : List ByteArray) : ByteArray := foldS (wgtS n (Z.take k)) 1 (Z.getD (k + 1) noS)
def dvS (c : Nat) (s : ByteArray) : ByteArray := scaleS (dv 1 c) s
def byPL (n k : Nat) (Z : List ByteArray) (i : Nat) : List ByteArray := Z.set i (lkP n k Z)
def mkQL (n k : Nat) (Z : List ByteArray) : List ByteArray := Z.set (k + 1) (wgtS n (Z.take k))
def byQL (n k : Nat) (Z : List ByteArray) (i : Nat) : List ByteArray := Z.set i (dvS (pw i) (lkQ n k Z))
def firstS (n k : Nat) (Z : List ByteArray) (i j : Nat) : ByteArray := dvS (pw i ^^^ pw j) (foldS (lkQ n k Z) (pw j) (lkP n k Z))
def byBL (n k : Nat) (Z : List ByteArray) (i j : Nat) : List ByteArray := (Z.set i (firstS n k Z i j)).set j (foldS (lkP n k Z) 1 (firstS n k Z i j))
/-- all columns brought back: the lost ones are noughts in Z. -/
def fixZ (n k : Nat) (Z : List ByteArray) : List Nat → List ByteArray
  | [] => Z
  | [i] => if i ≤ k then byPL n k Z i else mkQL n k Z
  | [i, j] => if j = k + 1 then mkQL n k (byPL n k Z i) else if j = k then byPL n k (byQL n k Z i) k else byBL n k Z i j
  | _ => Z
/-- noughts in the place of the lost ones. -/
def blkL5 (n : Nat) (Z : List ByteArray) (g : List Nat) : List ByteArray := g.foldl (fun Z i => Z.set i (zs n)) Z

theorem dv_inv (c x : Nat) (hc : c < 256) (h0 : c ≠ 0) (hx : x < 256) : ml (dv 1 c) (ml c x) = x := by
  rw [ml_assoc _ _ _ (dv_lt 1 c) hc hx, dv_back 1 c (by omega) hc h0, ml_one_left x hx]
theorem dv_as (q c : Nat) (hq : q < 256) (hc : c < 256) (h0 : c ≠ 0) : ml (dv 1 c) q = dv q c := by
  refine dv_only _ q c (ml_lt _ _ (dv_lt 1 c)) hc h0 ?_
  rw [ml_swap _ _ _ (dv_lt 1 c), dv_back 1 c (by omega) hc h0, ml_one_left q hq]
theorem pw_ne0 (i : Nat) : pw i ≠ 0 := by have := (pw_pos i).1; omega
theorem pw_apart {i j : Nat} (hi : i < 255) (hj : j < 255) (h : i ≠ j) : pw i ^^^ pw j ≠ 0 := fun e => by
  have e1 := xor_zero e
  have e2 := lg_pw i
  have e3 := lg_pw j
  rw [e1] at e2
  omega
theorem pw_x_lt (i j : Nat) : pw i ^^^ pw j < 256 := Nat.xor_lt_two_pow (n := 8) (pw_lt i) (pw_lt j)

theorem getD_take {l : List ByteArray} {i k : Nat} (h : i < k) : (l.take k).getD i noS = l.getD i noS := by
  rw [List.getD_eq_getElem?_getD, List.getD_eq_getElem?_getD, List.getElem?_take_of_lt h]
theorem take_out {l : List ByteArray} {i k : Nat} (h : k ≤ i) (t : ByteArray) : (l.set i t).take k = l.take k := by
  rw [List.take_set]
  apply List.set_eq_of_length_le
  rw [List.length_take]; omega
theorem getD_set_neL5 {l : List ByteArray} {i j : Nat} (h : i ≠ j) (t : ByteArray) : (l.set i t).getD j noS = l.getD j noS := by
  rw [List.getD_eq_getElem?_getD, List.getD_eq_getElem?_getD, List.getElem?_set_ne h]
theorem getD_set_eqL5 {l : List ByteArray} {i : Nat} (h : i < l.length) (t : ByteArray) : (l.set i t).getD i noS = t := by
  rw [List.getD_eq_getElem?_getD, List.getElem?_set_self h]; rfl
theorem set_back {l : List ByteArray} {i : Nat} (t : ByteArray) : (l.set i t).set i (l.getD i noS) = l := by
  rw [List.set_set, set_self]

/-! ### bytes -/
theorem lkP_at {n k m : Nat} {Z : List ByteArray} (hZ : Sz n Z) (hm : m < n) : bAt (lkP n k Z) (m : Int) = xb m (Z.take (k + 1)) := par_at n m hm _ (hZ.take (k + 1))
theorem lkP_size {n k : Nat} {Z : List ByteArray} (hZ : Sz n Z) : (lkP n k Z).size = n := parS_size n _ (hZ.take (k + 1))
theorem lkQ_size {n k : Nat} {Z : List ByteArray} (hZ : Sz n Z) (hl : k + 1 < Z.length) : (lkQ n k Z).size = n := by
  unfold lkQ; rw [foldS_size]; exact hZ.at _ hl
theorem lkQ_at {n k m : Nat} {Z : List ByteArray} (hZ : Sz n Z) (hl : k + 1 < Z.length) (hm : m < n) : bAt (lkQ n k Z) (m : Int) = qb m (Z.take k) ^^^ bAt (Z.getD (k + 1) noS) (m : Int) := by
  unfold lkQ
  rw [foldS_at _ 1 (by omega) _ m (by rw [hZ.at _ hl]; exact hm), ml_one_left _ (bAt_lt _ _), wgt_at n m hm]
theorem dvS_size (c : Nat) (s : ByteArray) : (dvS c s).size = s.size := scaleS_size _ _
theorem dvS_at (c : Nat) (s : ByteArray) (m : Nat) (h : m < s.size) : bAt (dvS c s) (m : Int) = ml (dv 1 c) (bAt s (m : Int)) := scaleS_at _ (dv_lt 1 c) s m h
theorem xb_in (m k i : Nat) (Z : List ByteArray) (t : ByteArray) (hi : i ≤ k) (hl : k < Z.length) : xb m ((Z.set i t).take (k + 1)) = xb m (Z.take (k + 1)) ^^^ (bAt (Z.getD i noS) m ^^^ bAt t m) := by
  rw [List.take_set, xb_set m t _ i (by rw [List.length_take]; omega), getD_take (by omega)]
theorem qb_in (m k i : Nat) (Z : List ByteArray) (t : ByteArray) (hi : i < k) (hl : k ≤ Z.length) : qb m ((Z.set i t).take k) = qb m (Z.take k) ^^^ ml (pw i) (bAt (Z.getD i noS) m ^^^ bAt t m) := by
  rw [List.take_set, qb_set m t _ i (by rw [List.length_take]; omega), getD_take (by omega)]

/-! ### a row whose parities fit -/
structure Fits (n k : Nat) (A : List ByteArray) : Prop where
  len : A.length = k + 2
  sz : Sz n A
  p : ∀ m, m < n → xb m (A.take (k + 1)) = 0
  q : ∀ m, m < n → qb m (A.take k) = bAt (A.getD (k + 1) noS) (m : Int)

theorem one_p {n k : Nat} {A : List ByteArray} (h : Fits n k A) {i : Nat} (hi : i ≤ k) : lkP n k (A.set i (zs n)) = A.getD i noS := by
  have hs := h.sz.set i (zs_size n)
  have hl := h.len
  apply bs_ext
  · rw [lkP_size hs, h.sz.at i (by omega)]
  · intro m hm
    rw [lkP_size hs] at hm
    rw [lkP_at hs hm, xb_in m k i A _ hi (by omega), h.p m hm, zs_at, Nat.xor_zero, Nat.zero_xor]
theorem one_q {n k : Nat} {A : List ByteArray} (h : Fits n k A) : wgtS n (A.take k) = A.getD (k + 1) noS := by
  have hl := h.len
  apply bs_ext
  · rw [wgtS_size, h.sz.at _ (by omega)]
  · intro m hm
    rw [wgtS_size] at hm
    rw [wgt_at n m hm, h.q m hm]
theorem lkP_out {n k i : Nat} {Z : List ByteArray} (h : k + 1 ≤ i) (t : ByteArray) : lkP n k (Z.set i t) = lkP n k Z := by unfold lkP; rw [take_out h]
theorem lkQ_p {n k : Nat} {Z : List ByteArray} (t : ByteArray) : lkQ n k (Z.set k t) = lkQ n k Z := by unfold lkQ; rw [take_out (Nat.le_refl k), getD_set_neL5 (by omega)]
theorem data_q {n k : Nat} {A : List ByteArray} (h : Fits n k A) {i : Nat} (hi : i < k) : dvS (pw i) (lkQ n k (A.set i (zs n))) = A.getD i noS := by
  have hs := h.sz.set i (zs_size n)
  have hl := h.len
  have hl' : k + 1 < (A.set i (zs n)).length := by rw [List.length_set]; omega
  apply bs_ext
  · rw [dvS_size, lkQ_size hs hl', h.sz.at i (by omega)]
  · intro m hm
    rw [dvS_size, lkQ_size hs hl'] at hm
    rw [dvS_at _ _ m (by rw [lkQ_size hs hl']; exact hm), lkQ_at hs hl' hm, qb_in m k i A _ hi (by omega), getD_set_neL5 (by omega), h.q m hm, zs_at, Nat.xor_zero, Nat.xor_comm, ← Nat.xor_assoc, Nat.xor_self, Nat.zero_xor, dv_inv _ _ (pw_lt i) (pw_ne0 i) (bAt_lt _ _)]
theorem two_p {n k : Nat} {A : List ByteArray} (h : Fits n k A) {i j : Nat} (hi : i < j) (hj : j < k) {m : Nat} (hm : m < n) : bAt (lkP n k ((A.set i (zs n)).set j (zs n))) (m : Int) = bAt (A.getD i noS) (m : Int) ^^^ bAt (A.getD j noS) (m : Int) := by
  have hs := (h.sz.set i (zs_size n)).set j (zs_size n)
  have hl := h.len
  rw [lkP_at hs hm, xb_in m k j _ _ (by omega) (by rw [List.length_set]; omega), xb_in m k i A _ (by omega) (by omega), h.p m hm, getD_set_neL5 (by omega), zs_at, Nat.xor_zero, Nat.xor_zero, Nat.zero_xor]
theorem two_q {n k : Nat} {A : List ByteArray} (h : Fits n k A) {i j : Nat} (hi : i < j) (hj : j < k) {m : Nat} (hm : m < n) : bAt (lkQ n k ((A.set i (zs n)).set j (zs n))) (m : Int) = ml (pw i) (bAt (A.getD i noS) (m : Int)) ^^^ ml (pw j) (bAt (A.getD j noS) (m : Int)) := by
  have hs := (h.sz.set i (zs_size n)).set j (zs_size n)
  have hl := h.len
  have hl' : k + 1 < ((A.set i (zs n)).set j (zs n)).length := by rw [List.length_set, List.length_set]; omega
  rw [lkQ_at hs hl' hm, qb_in m k j _ _ hj (by rw [List.length_set]; omega), qb_in m k i A _ (by omega) (by omega), h.q m hm, getD_set_neL5 (by omega), getD_set_neL5 (by omega), getD_set_neL5 (by omega), zs_at, Nat.xor_zero, Nat.xor_zero, Nat.xor_comm, Nat.xor_assoc, ← Nat.xor_assoc, Nat.xor_self, Nat.zero_xor]
theorem byB_first {x y a b : Nat} (hx : x < 256) (hab : a ^^^ b < 256) (h0 : a ^^^ b ≠ 0) (ha : a < 256) (hb : b < 256) : ml (dv 1 (a ^^^ b)) (ml a x ^^^ ml b y ^^^ ml b (x ^^^ y)) = x := by
  have e : ml a x ^^^ ml b y ^^^ ml b (x ^^^ y) = ml (a ^^^ b) x := by
    rw [ml_sum b x y, Nat.xor_comm (ml b x), Nat.xor_assoc, ← Nat.xor_assoc (ml b y), Nat.xor_self, Nat.zero_xor, ml_comm a x ha hx, ml_comm b x hb hx, ← ml_sum, ml_comm x _ hx hab]
  rw [e, dv_inv _ _ hab h0 hx]
theorem two_first {n k : Nat} {A : List ByteArray} (h : Fits n k A) (hk : k ≤ 30) {i j : Nat} (hi : i < j) (hj : j < k) : firstS n k ((A.set i (zs n)).set j (zs n)) i j = A.getD i noS := by
  have hs := (h.sz.set i (zs_size n)).set j (zs_size n)
  have hl := h.len
  have hl' : k + 1 < ((A.set i (zs n)).set j (zs n)).length := by rw [List.length_set, List.length_set]; omega
  have hz : (foldS (lkQ n k ((A.set i (zs n)).set j (zs n))) (pw j) (lkP n k ((A.set i (zs n)).set j (zs n)))).size = n := by rw [foldS_size, lkP_size hs]
  apply bs_ext
  · unfold firstS; rw [dvS_size, hz, h.sz.at i (by omega)]
  · intro m hm
    unfold firstS at hm ⊢
    rw [dvS_size, hz] at hm
    rw [dvS_at _ _ m (by rw [hz]; exact hm), foldS_at _ _ (pw_lt j) _ m (by rw [lkP_size hs]; exact hm), two_p h hi hj hm, two_q h hi hj hm]
    exact byB_first (bAt_lt _ _) (pw_x_lt i j) (pw_apart (by omega) (by omega) (by omega)) (pw_lt i) (pw_lt j)
theorem two_second {n k : Nat} {A : List ByteArray} (h : Fits n k A) {i j : Nat} (hi : i < j) (hj : j < k) : foldS (lkP n k ((A.set i (zs n)).set j (zs n))) 1 (A.getD i noS) = A.getD j noS := by
  have hl := h.len
  have hz : (A.getD i noS).size = n := h.sz.at i (by omega)
  apply bs_ext
  · rw [foldS_size, hz, h.sz.at j (by omega)]
  · intro m hm
    rw [foldS_size, hz] at hm
    rw [foldS_at _ 1 (by omega) _ m (by rw [hz]; exact hm), two_p h hi hj hm, ml_one_left _ (bAt_lt _ _), Nat.xor_comm, ← Nat.xor_assoc, Nat.xor_self, Nat.zero_xor]

/-- whichever at most two columns are lost: all are told as they were. -/
theorem fix_one {n k : Nat} {A : List ByteArray} (h : Fits n k A) {i : Nat} (hi : i < k + 2) : fixZ n k (blkL5 n A [i]) [i] = A := by
  show (if i ≤ k then byPL n k (A.set i (zs n)) i else mkQL n k (A.set i (zs n))) = A
  by_cases hk : i ≤ k
  · rw [if_pos hk]
    unfold byPL
    rw [one_p h hk, set_back]
  · rw [if_neg hk]
    obtain rfl : i = k + 1 := by omega
    unfold mkQL
    rw [take_out (by omega), one_q h, set_back]
theorem fix_two {n k : Nat} {A : List ByteArray} (h : Fits n k A) (hk : k ≤ 30) {i j : Nat} (hi : i < j) (hj : j < k + 2) : fixZ n k (blkL5 n A [i, j]) [i, j] = A := by
  show (if j = k + 1 then mkQL n k (byPL n k ((A.set i (zs n)).set j (zs n)) i) else if j = k then byPL n k (byQL n k ((A.set i (zs n)).set j (zs n)) i) k else byBL n k ((A.set i (zs n)).set j (zs n)) i j) = A
  by_cases h1 : j = k + 1
  · rw [if_pos h1]
    subst h1
    unfold byPL
    rw [lkP_out (Nat.le_refl _), one_p h (by omega), List.set_comm _ _ (by omega), set_back]
    unfold mkQL
    rw [take_out (by omega), one_q h, set_back]
  · rw [if_neg h1]
    by_cases h2 : j = k
    · rw [if_pos h2]
      subst h2
      unfold byQL
      rw [lkQ_p, data_q h hi, List.set_comm _ _ (by omega), set_back]
      unfold byPL
      rw [one_p h (Nat.le_refl _), set_back]
    · rw [if_neg h2]
      unfold byBL
      rw [two_first h hk hi (by omega), two_second h hi (by omega)]
      rw [List.set_comm _ _ (show j ≠ i by omega), set_back, set_back]
theorem xb_append (m : Nat) (t : ByteArray) : ∀ l : List ByteArray, xb m (l ++ [t]) = xb m l ^^^ bAt t m
  | [] => by show bAt t m ^^^ 0 = 0 ^^^ bAt t m; rw [Nat.xor_zero, Nat.zero_xor]
  | s :: r => by
    show bAt s m ^^^ xb m (r ++ [t]) = bAt s m ^^^ xb m r ^^^ bAt t m
    rw [xb_append m t r, Nat.xor_assoc]
theorem row_fits {n : Nat} {D : List ByteArray} (h : Sz n D) : Fits n D.length (D ++ [parS n D, wgtS n D]) := by
  refine ⟨by simp, ?_, fun m hm => ?_, fun m hm => ?_⟩
  · intro s hs
    rcases List.mem_append.1 hs with h' | h'
    · exact h s h'
    · rcases List.mem_cons.1 h' with rfl | h''
      · exact parS_size n D h
      · rw [List.mem_singleton.1 h'']; exact wgtS_size n D
  · rw [show D ++ [parS n D, wgtS n D] = (D ++ [parS n D]) ++ [wgtS n D] by simp, List.take_append_of_le_length (by simp), List.take_of_length_le (by simp), xb_append, par_at n m hm D h, Nat.xor_self]
  · rw [List.take_append_of_le_length (by simp), List.take_of_length_le (by simp), List.getD_eq_getElem?_getD, List.getElem?_append_right (by omega), Nat.add_sub_cancel_left]
    show _ = bAt (wgtS n D) (m : Int)
    rw [wgt_at n m hm]

end Go.Proofs.YtonooelffokfkaaGreatDoor

namespace Go.Proofs.YtonooelffokfkaaGreatDoor
open Go.RowKit Plain

theorem Turned.sp {b : Nat} {w w' : World} (h : Turned b w w') : Sp [b] w w' :=
  ⟨h.same.1, h.same.2.1, h.same.2.2, h.size, fun k hk hn => h.block k hk (fun e => hn (by simp [e]))⟩

/-- the fixer at block f, its field at block b, its counts. -/
structure FixIn (w : World) (f b : Nat) (cnt : Nat → Int) : Prop where
  hf : f < w.heap.size
  hb : b < w.heap.size
  ne : f ≠ b
  ptr : w.cell? ⟨f, 0, none⟩ = some (.pointer (some ⟨b, 0, none⟩))
  c : ∀ j, j < 8 → w.cell? ⟨f, 1 + j, none⟩ = some (.int .i64 (cnt j))
  z : ∀ o, w.frozen? ⟨f, o, none⟩ = false
  fld : Fresh w b ∨ Ready w b
theorem FixIn.sp {w w' : World} {f b : Nat} {cnt : Nat → Int} (h : FixIn w f b cnt) {T : List Nat} (k : Sp T w w') (hf : f ∉ T) (hb : b ∉ T) : FixIn w' f b cnt :=
  ⟨Nat.lt_of_lt_of_le h.hf k.size, Nat.lt_of_lt_of_le h.hb k.size, h.ne, k.held h.ptr hf, fun j hj => k.held (h.c j hj) hf, fun o => (k.frozen h.hf hf o).trans (h.z o), h.fld.imp (fun x => FieldIn.of_block x (k.block b h.hb hb) k.size) (fun x => FieldIn.of_block x (k.block b h.hb hb) k.size)⟩
theorem FixIn.kp {w w' : World} {f b : Nat} {cnt : Nat → Int} (h : FixIn w f b cnt) (k : Kp w w') : FixIn w' f b cnt := h.sp (k.sp []) (by simp) (by simp)
theorem FixIn.made {w w' : World} {f b : Nat} {cnt : Nat → Int} (h : FixIn w f b cnt) (k : Sp [b] w w') (hr : Ready w' b) : FixIn w' f b cnt := by
  have hf : f ∉ [b] := by simpa using h.ne
  exact ⟨Nat.lt_of_lt_of_le h.hf k.size, Nat.lt_of_lt_of_le h.hb k.size, h.ne, k.held h.ptr hf, fun j hj => k.held (h.c j hj) hf, fun o => (k.frozen h.hf hf o).trans (h.z o), .inr hr⟩
def upL5 (cnt : Nat → Int) (j : Nat) : Nat → Int := fun i => if i = j then cnt j + 1 else cnt i
theorem FixIn.count {w : World} {f b : Nat} {cnt : Nat → Int} (h : FixIn w f b cnt) (j : Nat) (hj : j < 8) : FixIn (w.setCell ⟨f, 1 + j, none⟩ (.int .i64 (cnt j + 1))) f b (upL5 cnt j) := by
  have k : Sp [f] w (w.setCell ⟨f, 1 + j, none⟩ (.int .i64 (cnt j + 1))) := (Sp.refl [f] w).set f _ (by simp) _
  have hb : b ∉ [f] := by simpa using fun e => h.ne e.symm
  refine ⟨Nat.lt_of_lt_of_le h.hf k.size, Nat.lt_of_lt_of_le h.hb k.size, h.ne, ?_, fun i hi => ?_, fun o => (World.frozen?_setCell _ _ _ _).trans (h.z o), h.fld.imp (fun x => FieldIn.of_block x (k.block b h.hb hb) k.size) (fun x => FieldIn.of_block x (k.block b h.hb hb) k.size)⟩
  · rw [cell_off _ _ _ _ _ (by omega)]; exact h.ptr
  · unfold upL5
    by_cases e : i = j
    · subst e; rw [World.cell?_setCell_same _ _ _ (h.c i hi), if_pos rfl]
    · rw [cell_off _ _ _ _ _ (by omega), h.c i hi, if_neg e]

/-- columns at block C. -/
structure ColIn (w : World) (C : Nat) (L : List ByteArray) : Prop where
  hC : C < w.heap.size
  c : ∀ i, i < L.length → w.cell? ⟨C, i, none⟩ = some (.string (L.getD i noS))
  z : ∀ o, w.frozen? ⟨C, o, none⟩ = false
theorem ColIn.sp {w w' : World} {C : Nat} {L : List ByteArray} (h : ColIn w C L) {T : List Nat} (k : Sp T w w') (hC : C ∉ T) : ColIn w' C L :=
  ⟨Nat.lt_of_lt_of_le h.hC k.size, fun i hi => k.held (h.c i hi) hC, fun o => (k.frozen h.hC hC o).trans (h.z o)⟩
theorem ColIn.set {w : World} {C : Nat} {L : List ByteArray} (h : ColIn w C L) (i : Nat) (hi : i < L.length) (t : ByteArray) : ColIn (w.setCell ⟨C, i, none⟩ (.string t)) C (L.set i t) := by
  refine ⟨by simpa [World.setCell] using h.hC, fun j hj => ?_, fun o => (World.frozen?_setCell _ _ _ _).trans (h.z o)⟩
  rw [List.length_set] at hj
  by_cases e : j = i
  · subst e; rw [World.cell?_setCell_same _ _ _ (h.c j hj), getD_set_eqL5 hi]
  · rw [cell_off _ _ _ _ _ e, h.c j hj, getD_set_neL5 (fun e' => e e'.symm)]
theorem ColIn.strs {w : World} {C : Nat} {L : List ByteArray} (h : ColIn w C L) (m cap : Nat) (h0 : 0 < m) (hm : m ≤ L.length) (h1 : m ≤ cap) (h2 : cap ≤ maxLen) : StrsIn w (.slice (some ⟨C, 0, none⟩) m cap) (L.take m) := by
  have hl : (L.take m).length = m := by rw [List.length_take]; omega
  have H := StrsIn.some (w := w) C 0 cap (L.take m) (by omega) (by omega) h2 (fun i hi => by rw [Nat.zero_add, getD_take (by omega)]; exact h.c i (by omega))
  rwa [hl] at H

/-- a row under way at block R: its fixer at f, its columns at C, the lost ones' numbers gv. -/
structure RowInL5 (w : World) (R f b C k cap : Nat) (gv : Value) (L : List ByteArray) (cnt : Nat → Int) : Prop where
  hR : R < w.heap.size
  r0 : w.cell? ⟨R, 0, none⟩ = some (.pointer (some ⟨f, 0, none⟩))
  r1 : w.cell? ⟨R, 1, none⟩ = some (.int .i64 (k : Int))
  r2 : w.cell? ⟨R, 2, none⟩ = some (.slice (some ⟨C, 0, none⟩) (k + 2) cap)
  r3 : w.cell? ⟨R, 3, none⟩ = some gv
  cap1 : k + 2 ≤ cap
  cap2 : cap ≤ maxLen
  len : L.length = k + 2
  cols : ColIn w C L
  fix : FixIn w f b cnt
  n1 : R ≠ C
  n2 : R ≠ f
  n3 : R ≠ b
  n4 : C ≠ f
  n5 : C ≠ b
theorem RowInL5.kp {w w' : World} {R f b C k cap : Nat} {gv : Value} {L : List ByteArray} {cnt : Nat → Int} (h : RowInL5 w R f b C k cap gv L cnt) (q : Kp w w') : RowInL5 w' R f b C k cap gv L cnt :=
  ⟨Nat.lt_of_lt_of_le h.hR q.size, q.held h.r0, q.held h.r1, q.held h.r2, q.held h.r3, h.cap1, h.cap2, h.len, h.cols.sp (q.sp []) (by simp), h.fix.kp q, h.n1, h.n2, h.n3, h.n4, h.n5⟩
theorem RowInL5.made {w w' : World} {R f b C k cap : Nat} {gv : Value} {L : List ByteArray} {cnt : Nat → Int} (h : RowInL5 w R f b C k cap gv L cnt) (q : Sp [b] w w') (hr : Ready w' b) : RowInL5 w' R f b C k cap gv L cnt := by
  have hR : R ∉ [b] := by simpa using h.n3
  have hC : C ∉ [b] := by simpa using h.n5
  exact ⟨Nat.lt_of_lt_of_le h.hR q.size, q.held h.r0 hR, q.held h.r1 hR, q.held h.r2 hR, q.held h.r3 hR, h.cap1, h.cap2, h.len, h.cols.sp q hC, h.fix.made q hr, h.n1, h.n2, h.n3, h.n4, h.n5⟩
theorem RowInL5.set {w : World} {R f b C k cap : Nat} {gv : Value} {L : List ByteArray} {cnt : Nat → Int} (h : RowInL5 w R f b C k cap gv L cnt) (i : Nat) (hi : i < k + 2) (t : ByteArray) : RowInL5 (w.setCell ⟨C, i, none⟩ (.string t)) R f b C k cap gv (L.set i t) cnt := by
  have q : Sp [C] w (w.setCell ⟨C, i, none⟩ (.string t)) := (Sp.refl [C] w).set C _ (by simp) _
  have hR : R ∉ [C] := by simpa using h.n1
  have hf : f ∉ [C] := by simpa using fun e => h.n4 e.symm
  have hb : b ∉ [C] := by simpa using fun e => h.n5 e.symm
  exact ⟨Nat.lt_of_lt_of_le h.hR q.size, q.held h.r0 hR, q.held h.r1 hR, q.held h.r2 hR, q.held h.r3 hR, h.cap1, h.cap2, by rw [List.length_set]; exact h.len, h.cols.set i (by rw [h.len]; exact hi) t, h.fix.sp q hf hb, h.n1, h.n2, h.n3, h.n4, h.n5⟩
theorem RowInL5.count {w : World} {R f b C k cap : Nat} {gv : Value} {L : List ByteArray} {cnt : Nat → Int} (h : RowInL5 w R f b C k cap gv L cnt) (j : Nat) (hj : j < 8) : RowInL5 (w.setCell ⟨f, 1 + j, none⟩ (.int .i64 (cnt j + 1))) R f b C k cap gv L (upL5 cnt j) := by
  have q : Sp [f] w (w.setCell ⟨f, 1 + j, none⟩ (.int .i64 (cnt j + 1))) := (Sp.refl [f] w).set f _ (by simp) _
  have hR : R ∉ [f] := by simpa using h.n2
  have hC : C ∉ [f] := by simpa using h.n4
  exact ⟨Nat.lt_of_lt_of_le h.hR q.size, q.held h.r0 hR, q.held h.r1 hR, q.held h.r2 hR, q.held h.r3 hR, h.cap1, h.cap2, h.len, h.cols.sp q hC, h.fix.count j hj, h.n1, h.n2, h.n3, h.n4, h.n5⟩
theorem IntsAt.sp {w w' : World} {B : Nat} {v : Value} {l : List Int} (h : IntsAt w B v l) {T : List Nat} (k : Sp T w w') (hT : ∀ t, t ∈ T → t < B) : IntsAt w' B v l := by
  cases h with
  | empty a cap h => exact .empty a cap h
  | some g cap l h0 h1 h2 hB hc => exact .some g cap l h0 h1 h2 hB (fun i hi => k.held (hc i hi) (fun ht => by have := hT g ht; omega))

end Go.Proofs.YtonooelffokfkaaGreatDoor

namespace Go.Proofs.YtonooelffokfkaaGreatDoor
open Go.RowKit Plain Go.BigFrame

theorem add_all {n : Nat} {l : List ByteArray} {v : Value} {w : World} (h0 : 0 < l.length) (hn : n ≤ 65536) (hs : Sz n l) (h : StrsIn w v l) :
    Calls Tryz.prog 147 #[v] w fun e w' => e = .returned (.tuple #[.string (parS n l), .int .i64 0]) ∧ Kp w w' := by
  have hf : fitE l = 0 := fit_ok (fun i hi => by rw [hs.at i hi]; exact hn) (fun i hi => by rw [hs.at i hi, hs.at 0 h0])
  have H := add_any v l (fun i hi => by rw [hs.at i hi]; unfold maxLen; omega) w h
  rw [res_ok hf, hf] at H
  cases l with
  | nil => exact absurd h0 (by simp)
  | cons s r => rwa [← par_add n s r (hs s (by simp))] at H
theorem make_sz {n : Nat} {M : List ByteArray} {v : Value} {w : World} (h2 : 2 ≤ M.length) (h30 : M.length ≤ 30) (hn : n ≤ 65536) (h : Sz n M) (hS : StrsIn w v M) :
    Calls Tryz.prog 127 #[v] w fun e w' => e = .returned (.tuple #[.string (parS n M), .string (wgtS n M), .int .i64 0]) ∧ Kp w w' := by
  have H := make_any v M (fun i hi => by rw [h.at i hi]; unfold maxLen; omega) w hS
  obtain ⟨e0, e1, e2⟩ := mk_all h2 h30 hn h
  rw [e0, e1, e2] at H
  exact H

set_option maxRecDepth 100000 in
set_option maxHeartbeats 2000000 in
theorem lackP_any {w : World} {R f b C k cap n : Nat} {gv : Value} {L : List ByteArray} {cnt : Nat → Int} (h : RowInL5 w R f b C k cap gv L cnt) (hk1 : 2 ≤ k) (hk2 : k ≤ 30) (hn : n ≤ 65536) (hs : Sz n L) :
    Calls Tryz.prog 176 #[.pointer (some ⟨R, 0, none⟩)] w fun e w' => e = .returned (.string (lkP n k L)) ∧ Kp w w' := by
  have hA : ∀ p, Calls Tryz.prog 147 #[.slice (some ⟨C, 0, none⟩) (k + 1) cap] (kpw w p) fun e w' => e = .returned (.tuple #[.string (lkP n k L), .int .i64 0]) ∧ Kp (kpw w p) w' := fun p => by
    have h' := h.kp (kpw_kp w p)
    have hl := h.len
    have hc := h.cap1
    exact add_all (by rw [List.length_take]; omega) hn (hs.take (k + 1)) (h'.cols.strs (k + 1) cap (by omega) (by omega) (by omega) h.cap2)
  have k1 : ∀ p, (kpw w p).cell? ⟨R, 1, none⟩ = some (.int .i64 (k : Int)) := fun p => kpw_cell h.r1 p
  have k2 : ∀ p, (kpw w p).cell? ⟨R, 2, none⟩ = some (.slice (some ⟨C, 0, none⟩) (k + 2) cap) := fun p => kpw_cell h.r2 p
  have hcap : k + 2 ≤ cap := h.cap1
  have hcap2 := h.cap2
  unfold maxLen at hcap2
  obtain ⟨S, hS⟩ : ∃ S, S = lkP n k L := ⟨_, rfl⟩
  rw [← hS] at hA ⊢
  clear hS h hs
  go_enter Tryz.func176, Tryz.ntmps176
  go_wp2_with fail
  refine wp_region_kp (by kernel_rfl) (by kernel_rfl) ?_
  repeat (first
    | go_big_quiet_skip
    | (go_big_quiet_want; go_big_quiet_op; go_big_quiet_on)
    | (go_big_quiet_want; go_big_quiet_op; apply Exists.intro; refine ⟨fun p => ?_, ?_⟩; (focus
        first
        | (go_at_call 147; exact kp_call (hA p))); go_big_quiet_on))
  refine wpQuiet_nil ?_
  rintro w' ⟨p, rfl⟩
  go_wp2
  go_ret
  exact ⟨rfl, kpw_kp w p⟩

set_option maxRecDepth 100000 in
set_option maxHeartbeats 4000000 in
theorem lackQ_any {w : World} {R f b C k cap n : Nat} {gv : Value} {L : List ByteArray} {cnt : Nat → Int} (h : RowInL5 w R f b C k cap gv L cnt) (hk1 : 2 ≤ k) (hk2 : k ≤ 30) (hn : n ≤ 65536) (hs : Sz n L) :
    Calls Tryz.prog 178 #[.pointer (some ⟨R, 0, none⟩)] w fun e w' => e = .returned (.string (lkQ n k L)) ∧ Kp w w' := by
  have hl := h.len
  have hM : ∀ p, Calls Tryz.prog 127 #[.slice (some ⟨C, 0, none⟩) k cap] (kpw w p) fun e w' => e = .returned (.tuple #[.string (parS n (L.take k)), .string (wgtS n (L.take k)), .int .i64 0]) ∧ Kp (kpw w p) w' := fun p => by
    have h' := h.kp (kpw_kp w p)
    have hc := h.cap1
    exact make_sz (by rw [List.length_take]; omega) (by rw [List.length_take]; omega) hn (hs.take k) (h'.cols.strs k cap (by omega) (by omega) (by omega) h.cap2)
  have hA : ∀ w' : World, Calls Tryz.prog 147 #[.slice (some ⟨w'.heap.size, 0, none⟩) 2 2] (w'.alloc (.cells #[.string (wgtS n (L.take k)), .string (L.getD (k + 1) noS)] 9)).drew fun e w'' => e = .returned (.tuple #[.string (lkQ n k L), .int .i64 0]) ∧ Kp w' w'' := fun w' =>
    (add2 _ _ (by rw [wgtS_size]; exact hn) (by rw [wgtS_size]; exact hs.at _ (by omega)) _ _ ((StrsIn.lit2 w' _ _ 9).kept (Kp.refl _).drew)).mono fun _ _ ⟨he, k⟩ => ⟨he, (((Kp.refl w').alloc _).drew).trans k⟩
  have k1 : ∀ p, (kpw w p).cell? ⟨R, 1, none⟩ = some (.int .i64 (k : Int)) := fun p => kpw_cell h.r1 p
  have k2 : ∀ p, (kpw w p).cell? ⟨R, 2, none⟩ = some (.slice (some ⟨C, 0, none⟩) (k + 2) cap) := fun p => kpw_cell h.r2 p
  have k3 : ∀ p, (kpw w p).cell? ⟨C, k + 1, none⟩ = some (.string (L.getD (k + 1) noS)) := fun p => kpw_cell (h.cols.c (k + 1) (by omega)) p
  have hcap : k + 2 ≤ cap := h.cap1
  have hcap2 := h.cap2
  unfold maxLen at hcap2
  obtain ⟨S, hS⟩ : ∃ S, S = lkQ n k L := ⟨_, rfl⟩
  obtain ⟨Q, hQ⟩ : ∃ S, S = wgtS n (L.take k) := ⟨_, rfl⟩
  obtain ⟨P, hP⟩ : ∃ S, S = parS n (L.take k) := ⟨_, rfl⟩
  obtain ⟨q, hq⟩ : ∃ S, S = L.getD (k + 1) noS := ⟨_, rfl⟩
  rw [← hS] at hA ⊢
  rw [← hq] at hA k3
  rw [← hQ] at hA hM
  rw [← hP] at hM
  clear hS hQ hP hq h hs hl
  go_enter Tryz.func178, Tryz.ntmps178
  go_wp2_with fail
  refine wp_region_kp (by kernel_rfl) (by kernel_rfl) ?_
  repeat (first
    | go_big_quiet_skip
    | (go_big_quiet_want; go_big_quiet_op; go_big_quiet_on)
    | (go_big_quiet_want; go_big_quiet_op; apply Exists.intro; refine ⟨fun p => ?_, ?_⟩; (focus
        first
        | (go_at_call 127; exact kp_call (hM p))); go_big_quiet_on))
  refine wpQuiet_nil ?_
  rintro w1 ⟨p, rfl⟩
  have e1 := k1 p
  have e2 := k2 p
  have e3 := k3 p
  have K1 := kpw_kp w p
  obtain ⟨w1, hw1⟩ : ∃ w1, w1 = kpw w p := ⟨_, rfl⟩
  rw [← hw1] at e1 e2 e3 K1 ⊢
  clear k1 k2 k3 hM hw1
  have n1 := World.new_ne w1 _ e1
  have n3 := World.new_ne w1 _ e3
  have i1 : (0 : Int) ≤ (k : Int) + 1 := by omega
  have i2 : (k : Int) + 1 < (k : Int) + 2 := by omega
  have i3 : IntKind.i64.wrap ((k : Int) + 1) = (k : Int) + 1 := by rw [IntKind.wrap_i64]; omega
  have i4 : ((k : Int) + 1).toNat = k + 1 := by omega
  go_wp2_with fail
  go_region_held3 (fun w' => w'.cell? ⟨R, 1, none⟩ = some (.int .i64 (k : Int)) ∧ w'.cell? ⟨R, 2, none⟩ = some (.slice (some ⟨C, 0, none⟩) (k + 2) cap) ∧ w'.cell? ⟨C, k + 1, none⟩ = some (.string q)) (first | go_keep | exact ⟨k2.held e1, k2.held e2, k2.held e3⟩)
    (first | (go_at_call 147; refine (hA _).mono ?_; rintro e w2 ⟨rfl, k2⟩))
  go_wp2
  go_ret
  exact ⟨rfl, K1.trans k2⟩

set_option maxHeartbeats 2000000 in
theorem divided_any {w : World} {R f b C k cap : Nat} {gv : Value} {L : List ByteArray} {cnt : Nat → Int} (h : RowInL5 w R f b C k cap gv L cnt) (s : ByteArray) (hs : s.size ≤ 65536) (c : Nat) (hc : c < 256) (h0 : c ≠ 0) :
    Calls Tryz.prog 177 #[.pointer (some ⟨R, 0, none⟩), .string s, .int .u8 c] w fun e w' => e = .returned (.string (dvS c s)) ∧ RowInL5 w' R f b C k cap gv L cnt ∧ Sp [b] w w' := by
  have hD := fdiv_any b 1 c (by omega) hc w h.fix.fld
  rw [dvV_pos 1 c h0, erV_pos c h0] at hD
  have hS := fun w' => scale1 (dv 1 c) (dv_lt 1 c) s hs w'
  have e0 := h.r0
  have e1 := h.fix.ptr
  obtain ⟨d, hd⟩ : ∃ d, d = dv 1 c := ⟨_, rfl⟩
  unfold dvS
  rw [← hd] at hD hS ⊢
  clear hd
  have H : Hid (RowInL5 w R f b C k cap gv L cnt) := h
  clear h
  go_enter Tryz.func177, Tryz.ntmps177
  go_wp2_with fail
  refine hD.mono ?_; rintro e w1 ⟨rfl, hR, hT⟩
  have H1 : Hid (RowInL5 w1 R f b C k cap gv L cnt) := H.out.made hT.sp hR
  have HT : Hid (Sp [b] w w1) := hT.sp
  clear hD H e0 e1 hR hT
  go_wp2_with fail
  refine (hS w1).mono ?_; rintro e w2 ⟨rfl, k2⟩
  go_wp2
  go_ret
  exact ⟨rfl, H1.out.kp k2, HT.out.trans (k2.sp [b])⟩

theorem RowInL5.facts {w : World} {R f b C k cap : Nat} {gv : Value} {L : List ByteArray} {cnt : Nat → Int} (h : RowInL5 w R f b C k cap gv L cnt) (i : Nat) (hi : i < k + 2) :
    w.cell? ⟨R, 2, none⟩ = some (.slice (some ⟨C, 0, none⟩) (k + 2) cap) ∧ w.cell? ⟨C, i, none⟩ = some (.string (L.getD i noS)) ∧ w.frozen? ⟨C, i, none⟩ = false ∧ ∀ v, (w.setCell ⟨C, i, none⟩ v).cell? ⟨R, 2, none⟩ = some (.slice (some ⟨C, 0, none⟩) (k + 2) cap) :=
  ⟨h.r2, h.cols.c i (by rw [h.len]; exact hi), h.cols.z i, fun v => (World.cell?_setCell_other _ _ _ _ (by intro e; cases e; exact h.n1 rfl)).trans h.r2⟩
set_option maxRecDepth 100000 in
set_option maxHeartbeats 4000000 in
theorem byP_any {w : World} {R f b C k cap n : Nat} {gv : Value} {L : List ByteArray} {cnt : Nat → Int} (h : RowInL5 w R f b C k cap gv L cnt) (hk1 : 2 ≤ k) (hk2 : k ≤ 30) (hn : n ≤ 65536) (hs : Sz n L) (i : Nat) (hi : i < k + 2) :
    Calls Tryz.prog 149 #[.pointer (some ⟨R, 0, none⟩), .int .i64 (i : Int)] w fun e w' => e = .returned (.tuple #[]) ∧ RowInL5 w' R f b C k cap gv (byPL n k L i) cnt ∧ Sp [C] w w' := by
  have hP : Calls Tryz.prog 176 #[.pointer (some ⟨R, 0, none⟩)] w.drew fun e w' => e = .returned (.string (lkP n k L)) ∧ (RowInL5 w' R f b C k cap gv L cnt ∧ Kp w w') :=
    (lackP_any (h.kp (Kp.refl w).drew) hk1 hk2 hn hs).mono fun _ _ ⟨he, k⟩ => ⟨he, h.kp ((Kp.refl w).drew.trans k), (Kp.refl w).drew.trans k⟩
  obtain ⟨e2, _, _, _⟩ := h.facts i hi
  unfold byPL
  obtain ⟨S, hS⟩ : ∃ S, S = lkP n k L := ⟨_, rfl⟩
  rw [← hS] at hP ⊢
  have i1 : (0 : Int) ≤ (i : Int) := by omega
  have i2 : (i : Int) < (k : Int) + 2 := by omega
  clear hS h hs
  go_enter Tryz.func149, Tryz.ntmps149
  go_wp2_with fail
  go_region_held3 (fun w' => w'.cell? ⟨R, 2, none⟩ = some (.slice (some ⟨C, 0, none⟩) (k + 2) cap)) (first | go_keep | exact f1 | exact f4 _)
    (first | (go_at_call 176; refine hP.mono ?_; rintro e w2 ⟨rfl, h2, k2⟩; obtain ⟨f1, f2, f3, f4⟩ := h2.facts i hi))
  go_end0
  exact ⟨rfl, h2.set i hi S, (k2.sp [C]).set C i (by simp) _⟩

set_option maxRecDepth 100000 in
set_option maxHeartbeats 4000000 in
theorem makeQ_any {w : World} {R f b C k cap n : Nat} {gv : Value} {L : List ByteArray} {cnt : Nat → Int} (h : RowInL5 w R f b C k cap gv L cnt) (hk1 : 2 ≤ k) (hk2 : k ≤ 30) (hn : n ≤ 65536) (hs : Sz n L) :
    Calls Tryz.prog 150 #[.pointer (some ⟨R, 0, none⟩)] w fun e w' => e = .returned (.tuple #[]) ∧ RowInL5 w' R f b C k cap gv (mkQL n k L) cnt ∧ Sp [C] w w' := by
  have hl := h.len
  have hcap : k + 2 ≤ cap := h.cap1
  have hcap2 := h.cap2
  have hM : Calls Tryz.prog 127 #[.slice (some ⟨C, 0, none⟩) k cap] w.drew fun e w' => e = .returned (.tuple #[.string (parS n (L.take k)), .string (wgtS n (L.take k)), .int .i64 0]) ∧ (RowInL5 w' R f b C k cap gv L cnt ∧ Kp w w') :=
    (make_sz (by rw [List.length_take]; omega) (by rw [List.length_take]; omega) hn (hs.take k) ((h.kp (Kp.refl w).drew).cols.strs k cap (by omega) (by omega) (by omega) h.cap2)).mono fun _ _ ⟨he, k⟩ => ⟨he, h.kp ((Kp.refl w).drew.trans k), (Kp.refl w).drew.trans k⟩
  have e1 := h.r1
  have e2 := h.r2
  unfold mkQL
  obtain ⟨Q, hQ⟩ : ∃ S, S = wgtS n (L.take k) := ⟨_, rfl⟩
  obtain ⟨P, hP⟩ : ∃ S, S = parS n (L.take k) := ⟨_, rfl⟩
  rw [← hQ] at hM ⊢
  rw [← hP] at hM
  unfold maxLen at hcap2
  have i1 : (0 : Int) ≤ (k : Int) + 1 := by omega
  have i2 : (k : Int) + 1 < (k : Int) + 2 := by omega
  have i3 : IntKind.i64.wrap ((k : Int) + 1) = (k : Int) + 1 := by rw [IntKind.wrap_i64]; omega
  have i4 : ((k : Int) + 1).toNat = k + 1 := by omega
  have i5 : (0 : Int) ≤ (k : Int) := by omega
  have i6 : (k : Int) ≤ (cap : Int) := by omega
  clear hQ hP h hs
  go_enter Tryz.func150, Tryz.ntmps150
  go_wp2_with fail
  go_region_held3 (fun w' => w'.cell? ⟨R, 1, none⟩ = some (.int .i64 (k : Int)) ∧ w'.cell? ⟨R, 2, none⟩ = some (.slice (some ⟨C, 0, none⟩) (k + 2) cap)) (first | go_keep | exact ⟨f0, f1⟩ | exact ⟨f5 _, f4 _⟩)
    (first | (go_at_call 127; refine hM.mono ?_; rintro e w2 ⟨rfl, h2, k2⟩; obtain ⟨f1, f2, f3, f4⟩ := h2.facts (k + 1) (by omega); have f0 := h2.r1; have f5 : ∀ v, (w2.setCell ⟨C, k + 1, none⟩ v).cell? ⟨R, 1, none⟩ = some (.int .i64 (k : Int)) := fun v => (World.cell?_setCell_other _ _ _ _ (by intro e; cases e; exact h2.n1 rfl)).trans h2.r1))
  go_end0
  exact ⟨rfl, h2.set (k + 1) (by omega) Q, (k2.sp [C]).set C (k + 1) (by simp) _⟩

set_option maxRecDepth 100000 in
set_option maxHeartbeats 4000000 in
theorem byQ_any {w : World} {R f b C k cap n : Nat} {gv : Value} {L : List ByteArray} {cnt : Nat → Int} (h : RowInL5 w R f b C k cap gv L cnt) (hk1 : 2 ≤ k) (hk2 : k ≤ 30) (hn : n ≤ 65536) (hs : Sz n L) (i : Nat) (hi : i < k) :
    Calls Tryz.prog 151 #[.pointer (some ⟨R, 0, none⟩), .int .i64 (i : Int)] w fun e w' => e = .returned (.tuple #[]) ∧ RowInL5 w' R f b C k cap gv (byQL n k L i) cnt ∧ Sp [C, b] w w' := by
  have hl := h.len
  have hQ : Calls Tryz.prog 178 #[.pointer (some ⟨R, 0, none⟩)] w.drew fun e w' => e = .returned (.string (lkQ n k L)) ∧ (RowInL5 w' R f b C k cap gv L cnt ∧ Kp w w') :=
    (lackQ_any (h.kp (Kp.refl w).drew) hk1 hk2 hn hs).mono fun _ _ ⟨he, k⟩ => ⟨he, h.kp ((Kp.refl w).drew.trans k), (Kp.refl w).drew.trans k⟩
  have hW := fun w' => power_any (i : Int) (by omega) (by omega) w'
  rw [pwI_in i (by omega)] at hW
  have hz : (lkQ n k L).size ≤ 65536 := by rw [lkQ_size hs (by omega)]; exact hn
  have hD := fun (w' : World) (h' : RowInL5 w' R f b C k cap gv L cnt) => divided_any h' (lkQ n k L) hz (pw i) (pw_lt i) (pw_ne0 i)
  obtain ⟨e2, _, _, _⟩ := h.facts i (by omega)
  unfold byQL
  obtain ⟨S, hS⟩ : ∃ S, S = lkQ n k L := ⟨_, rfl⟩
  rw [← hS] at hQ hD ⊢
  obtain ⟨c, hc⟩ : ∃ c, c = pw i := ⟨_, rfl⟩
  rw [← hc] at hW hD ⊢
  obtain ⟨X, hX⟩ : ∃ X, X = dvS c S := ⟨_, rfl⟩
  rw [← hX] at hD ⊢
  have i1 : (0 : Int) ≤ (i : Int) := by omega
  have i2 : (i : Int) < (k : Int) + 2 := by omega
  clear hS h hs hz hc hX hl
  go_enter Tryz.func151, Tryz.ntmps151
  go_wp2_with fail
  go_region_held3 (fun w' => w'.cell? ⟨R, 2, none⟩ = some (.slice (some ⟨C, 0, none⟩) (k + 2) cap)) (first | go_keep | exact h2.r2 | exact h3.r2 | exact f1 | exact f4 _)
    (first
      | (go_at_call 178; refine hQ.mono ?_; rintro e w2 ⟨rfl, h2, k2⟩)
      | (go_at_call 179; refine (hW _).mono ?_; rintro e w3 ⟨rfl, k3⟩; have h3 := h2.kp k3)
      | (go_at_call 177; refine (hD _ h3).mono ?_; rintro e w4 ⟨rfl, h4, k4⟩; obtain ⟨f1, f2, f3, f4⟩ := h4.facts i (by omega)))
  go_end0
  exact ⟨rfl, h4.set i (by omega) X, (((k2.trans k3).sp [C, b]).trans (k4.mono (by simp))).set C i (by simp) _⟩

end Go.Proofs.YtonooelffokfkaaGreatDoor

namespace Go.Proofs.YtonooelffokfkaaGreatDoor
open Go.RowKit Plain Go.BigFrame

theorem u8_xor (x y : Nat) (hx : x < 256) (hy : y < 256) : bits .xor .u8 (x : Int) (y : Int) = ((x ^^^ y : Nat) : Int) := by
  have e1 : (BitVec.ofInt 8 (x : Int)).toNat = x := by rw [BitVec.toNat_ofInt]; omega
  have e2 : (BitVec.ofInt 8 (y : Int)).toNat = y := by rw [BitVec.toNat_ofInt]; omega
  show IntKind.u8.wrap ((BitVec.ofInt 8 (x : Int) ^^^ BitVec.ofInt 8 (y : Int)).toNat : Nat) = _
  rw [BitVec.toNat_xor, e1, e2, IntKind.wrap_u8]
  have := Nat.xor_lt_two_pow (n := 8) hx hy
  omega

set_option maxRecDepth 100000 in
set_option maxHeartbeats 8000000 in
theorem byBoth_any {w : World} {R f b C k cap n : Nat} {gv : Value} {L : List ByteArray} {cnt : Nat → Int} (h : RowInL5 w R f b C k cap gv L cnt) (hk1 : 2 ≤ k) (hk2 : k ≤ 30) (hn : n ≤ 65536) (hs : Sz n L) (i j : Nat) (hi : i < k) (hj : j < k) (hij : i ≠ j) :
    Calls Tryz.prog 152 #[.pointer (some ⟨R, 0, none⟩), .int .i64 (i : Int), .int .i64 (j : Int)] w fun e w' => e = .returned (.tuple #[]) ∧ RowInL5 w' R f b C k cap gv (byBL n k L i j) cnt ∧ Sp [C, b] w w' := by
  have hl := h.len
  have hP := lackP_any h hk1 hk2 hn hs
  have hQ := fun (w' : World) (h' : RowInL5 w' R f b C k cap gv L cnt) => lackQ_any h' hk1 hk2 hn hs
  have hW1 := fun w' => power_any (i : Int) (by omega) (by omega) w'
  rw [pwI_in i (by omega)] at hW1
  have hW2 := fun w' => power_any (j : Int) (by omega) (by omega) w'
  rw [pwI_in j (by omega)] at hW2
  have zP : (lkP n k L).size = n := lkP_size hs
  have zQ : (lkQ n k L).size = n := lkQ_size hs (by omega)
  have hF := fun w' => fold2 (lkQ n k L) (pw j) (pw_lt j) (lkP n k L) (by rw [zQ]; exact hn) (by rw [zP, zQ]) w'
  have zF : (foldS (lkQ n k L) (pw j) (lkP n k L)).size = n := by rw [foldS_size, zP]
  have hD := fun (w' : World) (h' : RowInL5 w' R f b C k cap gv L cnt) => divided_any h' (foldS (lkQ n k L) (pw j) (lkP n k L)) (by rw [zF]; exact hn) (pw i ^^^ pw j) (pw_x_lt i j) (pw_apart (by omega) (by omega) hij)
  rw [show dvS (pw i ^^^ pw j) (foldS (lkQ n k L) (pw j) (lkP n k L)) = firstS n k L i j from rfl] at hD
  have zX : (firstS n k L i j).size = n := by unfold firstS; rw [dvS_size, zF]
  have hX := u8_xor (pw i) (pw j) (pw_lt i) (pw_lt j)
  have hA : ∀ w' : World, Calls Tryz.prog 147 #[.slice (some ⟨w'.heap.size, 0, none⟩) 2 2] (w'.alloc (.cells #[.string (lkP n k L), .string (firstS n k L i j)] 9)).drew fun e w'' => e = .returned (.tuple #[.string (foldS (lkP n k L) 1 (firstS n k L i j)), .int .i64 0]) ∧ Kp w' w'' := fun w' =>
    (add2 _ _ (by rw [zP]; exact hn) (by rw [zX, zP]) _ _ ((StrsIn.lit2 w' _ _ 9).kept (Kp.refl _).drew)).mono fun _ _ ⟨he, k⟩ => ⟨he, (((Kp.refl w').alloc _).drew).trans k⟩
  unfold byBL
  obtain ⟨Y, hY⟩ : ∃ S, S = foldS (lkP n k L) 1 (firstS n k L i j) := ⟨_, rfl⟩
  rw [← hY] at hA ⊢
  obtain ⟨P, hP'⟩ : ∃ S, S = lkP n k L := ⟨_, rfl⟩
  obtain ⟨Q, hQ'⟩ : ∃ S, S = lkQ n k L := ⟨_, rfl⟩
  obtain ⟨X, hX'⟩ : ∃ S, S = firstS n k L i j := ⟨_, rfl⟩
  rw [← hP'] at hP hA hF hD
  rw [← hQ'] at hQ hF hD
  rw [← hX'] at hA hD ⊢
  obtain ⟨F, hF'⟩ : ∃ S, S = foldS Q (pw j) P := ⟨_, rfl⟩
  rw [← hF'] at hF hD
  obtain ⟨c1, hc1⟩ : ∃ S, S = pw i := ⟨_, rfl⟩
  obtain ⟨c2, hc2⟩ : ∃ S, S = pw j := ⟨_, rfl⟩
  rw [← hc1] at hW1 hD hX
  rw [← hc2] at hW2 hD hF hX
  obtain ⟨c3, hc3⟩ : ∃ S, S = c1 ^^^ c2 := ⟨_, rfl⟩
  rw [← hc3] at hD hX
  have i1 : (0 : Int) ≤ (i : Int) := by omega
  have i2 : (i : Int) < (k : Int) + 2 := by omega
  have j1 : (0 : Int) ≤ (j : Int) := by omega
  have j2 : (j : Int) < (k : Int) + 2 := by omega
  clear hY hP' hQ' hX' hF' hc1 hc2 hc3 hs hl zP zQ zF zX
  have H : Hid (RowInL5 w R f b C k cap gv L cnt) := h
  clear h
  go_enter Tryz.func152, Tryz.ntmps152
  go_wp2_with fail
  refine hP.mono ?_; rintro e w1 ⟨rfl, k1⟩
  go_wp2_with fail
  refine (hW1 w1).mono ?_; rintro e w2 ⟨rfl, k2⟩
  go_wp2_with fail
  refine (hW2 w2).mono ?_; rintro e w3 ⟨rfl, k3⟩
  have K3 := (k1.trans k2).trans k3
  have h3 := H.out.kp K3
  clear hP hW1 hW2 k1 k2 k3 H
  go_wp2_with fail
  refine (hQ w3 h3).mono ?_; rintro e w4 ⟨rfl, k4⟩
  go_wp2_with fail
  refine (hF w4).mono ?_; rintro e w5 ⟨rfl, k5⟩
  have h5 := (h3.kp k4).kp k5
  have K5 := (K3.trans k4).trans k5
  clear hQ hF h3 K3 k4 k5
  have h5d := h5.kp (Kp.refl w5).drew
  obtain ⟨e2, _, _, _⟩ := h5.facts i (by omega)
  have HD := hD _ h5d
  clear hD
  have HK5 : Hid (Kp w w5) := K5
  have H5 : Hid (RowInL5 w5 R f b C k cap gv L cnt) := h5
  clear h5 h5d K5
  go_wp2_with fail
  go_region_held3 (fun w' => w'.cell? ⟨R, 2, none⟩ = some (.slice (some ⟨C, 0, none⟩) (k + 2) cap)) (first | go_keep | exact f1 | exact f4 _)
    (first
      | (go_at_call 177; refine HD.mono ?_; rintro e w6 ⟨rfl, h6, k6⟩; obtain ⟨f1, f2, f3, f4⟩ := h6.facts i (by omega)))
  have h7 := h6.set i (by omega) X
  have K7 : Sp [C, b] w (w6.setCell ⟨C, i, none⟩ (.string X)) := ((HK5.out.drew.sp [C, b]).trans (k6.mono (by simp))).set C i (by simp) _
  obtain ⟨w7, hw7⟩ : ∃ w7, w7 = w6.setCell ⟨C, i, none⟩ (.string X) := ⟨_, rfl⟩
  rw [← hw7] at h7 K7 ⊢
  clear hw7 f1 f2 f3 f4 h6 k6 HD H5 HK5 e2
  obtain ⟨e2, _, _, _⟩ := h7.facts j (by omega)
  have e3 := h7.cols.c i (by rw [h7.len]; omega)
  rw [getD_set_eqL5 (by have := h7.len; rw [List.length_set] at this; omega)] at e3
  have n1 := World.new_ne w7 _ e2
  have n2 := World.new_ne w7 _ e3
  have HK7 : Hid (Sp [C, b] w w7) := K7
  have H7 : Hid (RowInL5 w7 R f b C k cap gv (L.set i X) cnt) := h7
  have hne : ∀ v (W : World), (W.setCell ⟨C, j, none⟩ v).cell? ⟨C, i, none⟩ = W.cell? ⟨C, i, none⟩ := fun v W => cell_off W C j i v hij
  clear h7 K7
  go_wp2_with fail
  go_region_held3 (fun w' => w'.cell? ⟨R, 2, none⟩ = some (.slice (some ⟨C, 0, none⟩) (k + 2) cap) ∧ w'.cell? ⟨C, i, none⟩ = some (.string X)) (first | go_keep | exact ⟨f1, f5⟩ | exact ⟨f4 _, (hne _ _).trans f5⟩)
    (first
      | (go_at_call 147; refine (hA _).mono ?_; rintro e w8 ⟨rfl, k8⟩; have h8 := H7.out.kp k8; obtain ⟨f1, f2, f3, f4⟩ := h8.facts j (by omega); have f5 := k8.held e3))
  go_end0
  exact ⟨rfl, h8.set j (by omega) Y, (HK7.out.trans (k8.sp [C, b])).set C j (by simp) _⟩

end Go.Proofs.YtonooelffokfkaaGreatDoor

namespace Go.Proofs.YtonooelffokfkaaGreatDoor
open Go.RowKit Plain Go.BigFrame
set_option linter.unusedVariables false

theorem IntsAt.one {w : World} {B : Nat} {v : Value} {x : Int} (h : IntsAt w B v [x]) : ∃ G cap, v = .slice (Option.some ⟨G, 0, none⟩) 1 cap ∧ B ≤ G ∧ w.cell? ⟨G, 0, none⟩ = Option.some (.int .i64 x) := by
  obtain ⟨l, hl⟩ : ∃ l, l = [x] := ⟨_, rfl⟩
  rw [← hl] at h
  cases h with
  | empty a cap h => cases hl
  | some g cap l h0 h1 h2 hB hc =>
    subst hl
    exact ⟨g, cap, rfl, hB, hc 0 (by simp)⟩
theorem IntsAt.two {w : World} {B : Nat} {v : Value} {x y : Int} (h : IntsAt w B v [x, y]) : ∃ G cap, v = .slice (Option.some ⟨G, 0, none⟩) 2 cap ∧ B ≤ G ∧ w.cell? ⟨G, 0, none⟩ = Option.some (.int .i64 x) ∧ w.cell? ⟨G, 1, none⟩ = Option.some (.int .i64 y) := by
  obtain ⟨l, hl⟩ : ∃ l, l = [x, y] := ⟨_, rfl⟩
  rw [← hl] at h
  cases h with
  | empty a cap h => cases hl
  | some g cap l h0 h1 h2 hB hc =>
    subst hl
    exact ⟨g, cap, rfl, hB, hc 0 (by simp), hc 1 (by simp)⟩
/-- what is kept where columns, the field and the counts are turned. -/
theorem Sp.gone {T : List Nat} {w w' : World} {B G o : Nat} {v : Value} (k : Sp T w w') (hT : ∀ t, t ∈ T → t < B) (hG : B ≤ G) (hc : w.cell? ⟨G, o, none⟩ = some v) : w'.cell? ⟨G, o, none⟩ = some v := k.held hc (fun ht => by have := hT G ht; omega)
theorem byPL_sz {n k : Nat} {L : List ByteArray} (hs : Sz n L) (i : Nat) : Sz n (byPL n k L i) := hs.set i (lkP_size hs)
theorem byQL_sz {n k : Nat} {L : List ByteArray} (hs : Sz n L) (hl : k + 1 < L.length) (i : Nat) : Sz n (byQL n k L i) := hs.set i (by rw [dvS_size]; exact lkQ_size hs hl)

set_option maxRecDepth 100000 in
set_option maxHeartbeats 4000000 in
theorem restore0 {w : World} {R f b C k cap n : Nat} {gv : Value} {L : List ByteArray} {cnt : Nat → Int} (h : RowInL5 w R f b C k cap gv L cnt) (hk1 : 2 ≤ k) (hk2 : k ≤ 30) (hn : n ≤ 65536) (hs : Sz n L) (hq : ∀ j, j < 8 → 0 ≤ cnt j ∧ cnt j < 4611686018427387904) :
    Calls Tryz.prog 115 #[.pointer (some ⟨R, 0, none⟩), .int .i64 0] w fun e w' => e = .returned (.tuple #[]) ∧ RowInL5 w' R f b C k cap gv (L) (upL5 cnt 0) ∧ Sp [C, b, f] w w' := by
  obtain ⟨q1, q2⟩ := hq 0 (by omega)
  clear hq
  go_enter Tryz.func115, Tryz.ntmps115
  have z0 := h.r0
  have zc : _ = some (Value.int .i64 (cnt 0)) := h.fix.c 0 (by omega)
  have zz := h.fix.z (1 + 0)
  have HR : Hid (RowInL5 _ R f b C k cap _ _ (upL5 cnt 0)) := h.count 0 (by omega)
  have HS := Sp.refl [C, b, f] w
  clear h
  simp only [Nat.reduceAdd] at zc zz HR
  go_wp2_with fail
  refine (count_add ⟨f, 1, none⟩ (cnt 0) 1 (by omega) (by omega) (by omega) (by omega) _ zc zz).mono ?_; rintro e w9 ⟨rfl, rfl⟩
  go_wp2
  go_end0
  exact ⟨rfl, HR.out, HS.set f 1 (by simp) _⟩

set_option maxRecDepth 100000 in
set_option maxHeartbeats 4000000 in
theorem restore1 {w : World} {R f b C k cap n : Nat} {gv : Value} {L : List ByteArray} {cnt : Nat → Int} (h : RowInL5 w R f b C k cap gv L cnt) (hk1 : 2 ≤ k) (hk2 : k ≤ 30) (hn : n ≤ 65536) (hs : Sz n L) (hq : ∀ j, j < 8 → 0 ≤ cnt j ∧ cnt j < 4611686018427387904) (B i : Nat) (hB : C < B ∧ b < B) (hg : IntsAt w B gv [(i : Int)]) (hi : i < k + 2) :
    Calls Tryz.prog 115 #[.pointer (some ⟨R, 0, none⟩), .int .i64 1] w fun e w' => e = .returned (.tuple #[]) ∧ RowInL5 w' R f b C k cap gv (byPL n k L i) (upL5 cnt 1) ∧ Sp [C, b, f] w w' := by
  obtain ⟨q1, q2⟩ := hq 1 (by omega)
  clear hq
  obtain ⟨G, gc, rfl, hG, g0⟩ := hg.one
  have e3 := h.r3
  have hP := byP_any h hk1 hk2 hn hs i hi
  clear h hs hg
  go_enter Tryz.func115, Tryz.ntmps115
  go_wp2_with fail
  refine hP.mono ?_; rintro e w1 ⟨rfl, h1, s1⟩
  clear hP e3 g0
  have z0 := h1.r0
  have zc : _ = some (Value.int .i64 (cnt 1)) := h1.fix.c 1 (by omega)
  have zz := h1.fix.z (1 + 1)
  have HR : Hid (RowInL5 _ R f b C k cap _ _ (upL5 cnt 1)) := h1.count 1 (by omega)
  have HS := s1.mono (T' := [C, b, f]) (by simp)
  clear h1
  simp only [Nat.reduceAdd] at zc zz HR
  go_wp2_with fail
  refine (count_add ⟨f, 2, none⟩ (cnt 1) 1 (by omega) (by omega) (by omega) (by omega) _ zc zz).mono ?_; rintro e w9 ⟨rfl, rfl⟩
  go_wp2
  go_end0
  exact ⟨rfl, HR.out, HS.set f 2 (by simp) _⟩

set_option maxRecDepth 100000 in
set_option maxHeartbeats 4000000 in
theorem restore2 {w : World} {R f b C k cap n : Nat} {gv : Value} {L : List ByteArray} {cnt : Nat → Int} (h : RowInL5 w R f b C k cap gv L cnt) (hk1 : 2 ≤ k) (hk2 : k ≤ 30) (hn : n ≤ 65536) (hs : Sz n L) (hq : ∀ j, j < 8 → 0 ≤ cnt j ∧ cnt j < 4611686018427387904) (B i : Nat) (hB : C < B ∧ b < B) (hg : IntsAt w B gv [(i : Int)]) (hi : i < k + 2) :
    Calls Tryz.prog 115 #[.pointer (some ⟨R, 0, none⟩), .int .i64 2] w fun e w' => e = .returned (.tuple #[]) ∧ RowInL5 w' R f b C k cap gv (byPL n k L i) (upL5 cnt 2) ∧ Sp [C, b, f] w w' := by
  obtain ⟨q1, q2⟩ := hq 2 (by omega)
  clear hq
  obtain ⟨G, gc, rfl, hG, g0⟩ := hg.one
  have e3 := h.r3
  have hP := byP_any h hk1 hk2 hn hs i hi
  clear h hs hg
  go_enter Tryz.func115, Tryz.ntmps115
  go_wp2_with fail
  refine hP.mono ?_; rintro e w1 ⟨rfl, h1, s1⟩
  clear hP e3 g0
  have z0 := h1.r0
  have zc : _ = some (Value.int .i64 (cnt 2)) := h1.fix.c 2 (by omega)
  have zz := h1.fix.z (1 + 2)
  have HR : Hid (RowInL5 _ R f b C k cap _ _ (upL5 cnt 2)) := h1.count 2 (by omega)
  have HS := s1.mono (T' := [C, b, f]) (by simp)
  clear h1
  simp only [Nat.reduceAdd] at zc zz HR
  go_wp2_with fail
  refine (count_add ⟨f, 3, none⟩ (cnt 2) 1 (by omega) (by omega) (by omega) (by omega) _ zc zz).mono ?_; rintro e w9 ⟨rfl, rfl⟩
  go_wp2
  go_end0
  exact ⟨rfl, HR.out, HS.set f 3 (by simp) _⟩

set_option maxRecDepth 100000 in
set_option maxHeartbeats 4000000 in
theorem restore3 {w : World} {R f b C k cap n : Nat} {gv : Value} {L : List ByteArray} {cnt : Nat → Int} (h : RowInL5 w R f b C k cap gv L cnt) (hk1 : 2 ≤ k) (hk2 : k ≤ 30) (hn : n ≤ 65536) (hs : Sz n L) (hq : ∀ j, j < 8 → 0 ≤ cnt j ∧ cnt j < 4611686018427387904) :
    Calls Tryz.prog 115 #[.pointer (some ⟨R, 0, none⟩), .int .i64 3] w fun e w' => e = .returned (.tuple #[]) ∧ RowInL5 w' R f b C k cap gv (mkQL n k L) (upL5 cnt 3) ∧ Sp [C, b, f] w w' := by
  obtain ⟨q1, q2⟩ := hq 3 (by omega)
  clear hq
  have hQ := makeQ_any h hk1 hk2 hn hs
  clear h hs
  go_enter Tryz.func115, Tryz.ntmps115
  go_wp2_with fail
  refine hQ.mono ?_; rintro e w1 ⟨rfl, h1, s1⟩
  clear hQ
  have z0 := h1.r0
  have zc : _ = some (Value.int .i64 (cnt 3)) := h1.fix.c 3 (by omega)
  have zz := h1.fix.z (1 + 3)
  have HR : Hid (RowInL5 _ R f b C k cap _ _ (upL5 cnt 3)) := h1.count 3 (by omega)
  have HS := s1.mono (T' := [C, b, f]) (by simp)
  clear h1
  simp only [Nat.reduceAdd] at zc zz HR
  go_wp2_with fail
  refine (count_add ⟨f, 4, none⟩ (cnt 3) 1 (by omega) (by omega) (by omega) (by omega) _ zc zz).mono ?_; rintro e w9 ⟨rfl, rfl⟩
  go_wp2
  go_end0
  exact ⟨rfl, HR.out, HS.set f 4 (by simp) _⟩

set_option maxRecDepth 100000 in
set_option maxHeartbeats 4000000 in
theorem restore4 {w : World} {R f b C k cap n : Nat} {gv : Value} {L : List ByteArray} {cnt : Nat → Int} (h : RowInL5 w R f b C k cap gv L cnt) (hk1 : 2 ≤ k) (hk2 : k ≤ 30) (hn : n ≤ 65536) (hs : Sz n L) (hq : ∀ j, j < 8 → 0 ≤ cnt j ∧ cnt j < 4611686018427387904) (B i j : Nat) (hB : C < B ∧ b < B) (hg : IntsAt w B gv [(i : Int), (j : Int)]) (hi : i < k) (hj : j < k + 2) :
    Calls Tryz.prog 115 #[.pointer (some ⟨R, 0, none⟩), .int .i64 4] w fun e w' => e = .returned (.tuple #[]) ∧ RowInL5 w' R f b C k cap gv (byPL n k (byQL n k L i) j) (upL5 cnt 4) ∧ Sp [C, b, f] w w' := by
  obtain ⟨q1, q2⟩ := hq 4 (by omega)
  clear hq
  obtain ⟨G, gc, rfl, hG, g0, g1⟩ := hg.two
  have e3 := h.r3
  have hl := h.len
  have hP := byQ_any h hk1 hk2 hn hs i hi
  have hs1 := byQL_sz (k := k) hs (by omega) i
  have hP2 := fun (w' : World) (h' : RowInL5 w' R f b C k cap (.slice (some ⟨G, 0, none⟩) 2 gc) (byQL n k L i) cnt) => byP_any h' hk1 hk2 hn hs1 j hj
  obtain ⟨M, hM⟩ : ∃ M, M = byQL n k L i := ⟨_, rfl⟩
  rw [← hM] at hP hP2 ⊢
  clear h hs hg hs1 hM hl
  go_enter Tryz.func115, Tryz.ntmps115
  go_wp2_with fail
  refine hP.mono ?_; rintro e w1 ⟨rfl, h1, s1⟩
  have e4 := h1.r3
  have g2 := s1.gone (B := B) (by simp; omega) hG g1
  have hP3 := hP2 w1 h1
  clear hP hP2 e3 g0 g1 h1
  go_wp2_with fail
  refine hP3.mono ?_; rintro e w2 ⟨rfl, h2, s2⟩
  have s3 := (s1.mono (T' := [C, b, f]) (by simp)).trans (s2.mono (by simp))
  clear hP3 e4 g2 s1 s2
  have z0 := h2.r0
  have zc : _ = some (Value.int .i64 (cnt 4)) := h2.fix.c 4 (by omega)
  have zz := h2.fix.z (1 + 4)
  have HR : Hid (RowInL5 _ R f b C k cap _ _ (upL5 cnt 4)) := h2.count 4 (by omega)
  have HS := s3
  clear h2
  simp only [Nat.reduceAdd] at zc zz HR
  go_wp2_with fail
  refine (count_add ⟨f, 5, none⟩ (cnt 4) 1 (by omega) (by omega) (by omega) (by omega) _ zc zz).mono ?_; rintro e w9 ⟨rfl, rfl⟩
  go_wp2
  go_end0
  exact ⟨rfl, HR.out, HS.set f 5 (by simp) _⟩

set_option maxRecDepth 100000 in
set_option maxHeartbeats 4000000 in
theorem restore5 {w : World} {R f b C k cap n : Nat} {gv : Value} {L : List ByteArray} {cnt : Nat → Int} (h : RowInL5 w R f b C k cap gv L cnt) (hk1 : 2 ≤ k) (hk2 : k ≤ 30) (hn : n ≤ 65536) (hs : Sz n L) (hq : ∀ j, j < 8 → 0 ≤ cnt j ∧ cnt j < 4611686018427387904) (B i j : Nat) (hB : C < B ∧ b < B) (hg : IntsAt w B gv [(i : Int), (j : Int)]) (hi : i < k + 2) :
    Calls Tryz.prog 115 #[.pointer (some ⟨R, 0, none⟩), .int .i64 5] w fun e w' => e = .returned (.tuple #[]) ∧ RowInL5 w' R f b C k cap gv (mkQL n k (byPL n k L i)) (upL5 cnt 5) ∧ Sp [C, b, f] w w' := by
  obtain ⟨q1, q2⟩ := hq 5 (by omega)
  clear hq
  obtain ⟨G, gc, rfl, hG, g0, g1⟩ := hg.two
  have e3 := h.r3
  have hP := byP_any h hk1 hk2 hn hs i hi
  have hs1 := byPL_sz (k := k) hs i
  have hQ := fun (w' : World) (h' : RowInL5 w' R f b C k cap (.slice (some ⟨G, 0, none⟩) 2 gc) (byPL n k L i) cnt) => makeQ_any h' hk1 hk2 hn hs1
  obtain ⟨M, hM⟩ : ∃ M, M = byPL n k L i := ⟨_, rfl⟩
  rw [← hM] at hP hQ ⊢
  clear h hs hg hs1 hM
  go_enter Tryz.func115, Tryz.ntmps115
  go_wp2_with fail
  refine hP.mono ?_; rintro e w1 ⟨rfl, h1, s1⟩
  have hQ1 := hQ w1 h1
  clear hP hQ e3 g0 g1 h1
  go_wp2_with fail
  refine hQ1.mono ?_; rintro e w2 ⟨rfl, h2, s2⟩
  have s3 := (s1.mono (T' := [C, b, f]) (by simp)).trans (s2.mono (by simp))
  clear hQ1 s1 s2
  have z0 := h2.r0
  have zc : _ = some (Value.int .i64 (cnt 5)) := h2.fix.c 5 (by omega)
  have zz := h2.fix.z (1 + 5)
  have HR : Hid (RowInL5 _ R f b C k cap _ _ (upL5 cnt 5)) := h2.count 5 (by omega)
  have HS := s3
  clear h2
  simp only [Nat.reduceAdd] at zc zz HR
  go_wp2_with fail
  refine (count_add ⟨f, 6, none⟩ (cnt 5) 1 (by omega) (by omega) (by omega) (by omega) _ zc zz).mono ?_; rintro e w9 ⟨rfl, rfl⟩
  go_wp2
  go_end0
  exact ⟨rfl, HR.out, HS.set f 6 (by simp) _⟩

set_option maxRecDepth 100000 in
set_option maxHeartbeats 4000000 in
theorem restore6 {w : World} {R f b C k cap n : Nat} {gv : Value} {L : List ByteArray} {cnt : Nat → Int} (h : RowInL5 w R f b C k cap gv L cnt) (hk1 : 2 ≤ k) (hk2 : k ≤ 30) (hn : n ≤ 65536) (hs : Sz n L) (hq : ∀ j, j < 8 → 0 ≤ cnt j ∧ cnt j < 4611686018427387904) (B i j : Nat) (hB : C < B ∧ b < B) (hg : IntsAt w B gv [(i : Int), (j : Int)]) (hi : i < k + 2) :
    Calls Tryz.prog 115 #[.pointer (some ⟨R, 0, none⟩), .int .i64 6] w fun e w' => e = .returned (.tuple #[]) ∧ RowInL5 w' R f b C k cap gv (mkQL n k (byPL n k L i)) (upL5 cnt 6) ∧ Sp [C, b, f] w w' := by
  obtain ⟨q1, q2⟩ := hq 6 (by omega)
  clear hq
  obtain ⟨G, gc, rfl, hG, g0, g1⟩ := hg.two
  have e3 := h.r3
  have hP := byP_any h hk1 hk2 hn hs i hi
  have hs1 := byPL_sz (k := k) hs i
  have hQ := fun (w' : World) (h' : RowInL5 w' R f b C k cap (.slice (some ⟨G, 0, none⟩) 2 gc) (byPL n k L i) cnt) => makeQ_any h' hk1 hk2 hn hs1
  obtain ⟨M, hM⟩ : ∃ M, M = byPL n k L i := ⟨_, rfl⟩
  rw [← hM] at hP hQ ⊢
  clear h hs hg hs1 hM
  go_enter Tryz.func115, Tryz.ntmps115
  go_wp2_with fail
  refine hP.mono ?_; rintro e w1 ⟨rfl, h1, s1⟩
  have hQ1 := hQ w1 h1
  clear hP hQ e3 g0 g1 h1
  go_wp2_with fail
  refine hQ1.mono ?_; rintro e w2 ⟨rfl, h2, s2⟩
  have s3 := (s1.mono (T' := [C, b, f]) (by simp)).trans (s2.mono (by simp))
  clear hQ1 s1 s2
  have z0 := h2.r0
  have zc : _ = some (Value.int .i64 (cnt 6)) := h2.fix.c 6 (by omega)
  have zz := h2.fix.z (1 + 6)
  have HR : Hid (RowInL5 _ R f b C k cap _ _ (upL5 cnt 6)) := h2.count 6 (by omega)
  have HS := s3
  clear h2
  simp only [Nat.reduceAdd] at zc zz HR
  go_wp2_with fail
  refine (count_add ⟨f, 7, none⟩ (cnt 6) 1 (by omega) (by omega) (by omega) (by omega) _ zc zz).mono ?_; rintro e w9 ⟨rfl, rfl⟩
  go_wp2
  go_end0
  exact ⟨rfl, HR.out, HS.set f 7 (by simp) _⟩

set_option maxRecDepth 100000 in
set_option maxHeartbeats 4000000 in
theorem restore7 {w : World} {R f b C k cap n : Nat} {gv : Value} {L : List ByteArray} {cnt : Nat → Int} (h : RowInL5 w R f b C k cap gv L cnt) (hk1 : 2 ≤ k) (hk2 : k ≤ 30) (hn : n ≤ 65536) (hs : Sz n L) (hq : ∀ j, j < 8 → 0 ≤ cnt j ∧ cnt j < 4611686018427387904) (B i j : Nat) (hB : C < B ∧ b < B) (hg : IntsAt w B gv [(i : Int), (j : Int)]) (hi : i < k) (hj : j < k) (hij : i ≠ j) :
    Calls Tryz.prog 115 #[.pointer (some ⟨R, 0, none⟩), .int .i64 7] w fun e w' => e = .returned (.tuple #[]) ∧ RowInL5 w' R f b C k cap gv (byBL n k L i j) (upL5 cnt 7) ∧ Sp [C, b, f] w w' := by
  obtain ⟨q1, q2⟩ := hq 7 (by omega)
  clear hq
  obtain ⟨G, gc, rfl, hG, g0, g1⟩ := hg.two
  have e3 := h.r3
  have hP := byBoth_any (h.kp (Kp.refl w).drew) hk1 hk2 hn hs i j hi hj hij
  clear h hs hg
  go_enter Tryz.func115, Tryz.ntmps115
  go_wp2_with fail
  go_region_held3 (fun w' => w'.cell? ⟨R, 3, none⟩ = some (.slice (some ⟨G, 0, none⟩) 2 gc) ∧ w'.cell? ⟨G, 0, none⟩ = some (.int .i64 (i : Int)) ∧ w'.cell? ⟨G, 1, none⟩ = some (.int .i64 (j : Int))) (first | go_keep | exact ⟨h1.r3, s1.gone (B := B) (by simp; omega) hG g0, s1.gone (B := B) (by simp; omega) hG g1⟩)
    (first | (go_at_call 152; refine hP.mono ?_; rintro e w1 ⟨rfl, h1, s1⟩))
  have s2 := ((Kp.refl w).drew.sp [C, b, f]).trans (s1.mono (by simp))
  clear hP e3 g0 g1 s1
  have z0 := h1.r0
  have zc : _ = some (Value.int .i64 (cnt 7)) := h1.fix.c 7 (by omega)
  have zz := h1.fix.z (1 + 7)
  have HR : Hid (RowInL5 _ R f b C k cap _ _ (upL5 cnt 7)) := h1.count 7 (by omega)
  have HS := s2
  clear h1
  simp only [Nat.reduceAdd] at zc zz HR
  go_wp2_with fail
  refine (count_add ⟨f, 8, none⟩ (cnt 7) 1 (by omega) (by omega) (by omega) (by omega) _ zc zz).mono ?_; rintro e w9 ⟨rfl, rfl⟩
  go_wp2
  go_end0
  exact ⟨rfl, HR.out, HS.set f 8 (by simp) _⟩

end Go.Proofs.YtonooelffokfkaaGreatDoor

namespace Go.Proofs.YtonooelffokfkaaGreatDoor
open Go.RowKit Plain Go.BigFrame
set_option linter.unusedVariables false

theorem info_str5 : (Tryz.prog.info? 9).map (fun i => (i.zero, i.size, i.bytes)) = some (some (.string ByteArray.empty), 1, 16) := by kernel_rfl
/-- the columns that are there. -/
def keptI (m : Nat) (g : List Nat) : List Nat := (List.range m).filter fun i => !g.contains i
def keptL (L : List ByteArray) (m : Nat) (g : List Nat) : List ByteArray := (keptI m g).map fun i => L.getD i noS
theorem keptL_in {L : List ByteArray} {m : Nat} {g : List Nat} (h : g.contains m = false) : keptL L (m + 1) g = keptL L m g ++ [L.getD m noS] := by
  have hm : m ∉ g := by simpa using h
  unfold keptL keptI; rw [List.range_succ, List.filter_append, List.map_append]; simp [hm]
theorem keptL_out {L : List ByteArray} {m : Nat} {g : List Nat} (h : g.contains m = true) : keptL L (m + 1) g = keptL L m g := by
  have hm : m ∈ g := by simpa using h
  unfold keptL keptI; rw [List.range_succ, List.filter_append, List.map_append]; simp [hm]
theorem keptL_le (L : List ByteArray) (m : Nat) (g : List Nat) : (keptL L m g).length ≤ m := by
  unfold keptL keptI; rw [List.length_map]; exact Nat.le_trans (List.length_filter_le _ _) (by simp)
theorem contains_nat (g : List Nat) (m : Nat) : (g.map (fun i : Nat => (i : Int))).contains (m : Int) = g.contains m := by
  rw [Bool.eq_iff_iff]; simp
  constructor
  · rintro ⟨a, ha, e⟩
    obtain rfl : a = m := by omega
    exact ha
  · intro h; exact ⟨m, h, rfl⟩
theorem keptI_some : ∀ {g : List Nat}, g.length ≤ 2 → ∃ i, i < 3 ∧ i ∉ g
  | [], _ => ⟨0, by omega, by simp⟩
  | [a], _ => if h : a = 0 then ⟨1, by omega, by simp; omega⟩ else ⟨0, by omega, by simp; omega⟩
  | [a, b], _ => by
    by_cases h0 : 0 ∈ [a, b]
    · by_cases h1 : 1 ∈ [a, b]
      · refine ⟨2, by omega, ?_⟩
        simp at h0 h1 ⊢; omega
      · exact ⟨1, by omega, h1⟩
    · exact ⟨0, by omega, h0⟩
  | _ :: _ :: _ :: _, h => absurd h (by simp)
theorem keptL_pos {L : List ByteArray} {g : List Nat} {m : Nat} (h : g.length ≤ 2) (hm : 3 ≤ m) : 0 < (keptL L m g).length := by
  obtain ⟨i, hi, hg⟩ := keptI_some h
  unfold keptL
  rw [List.length_map]
  apply List.length_pos_of_mem (a := i)
  unfold keptI
  rw [List.mem_filter, List.mem_range]
  exact ⟨by omega, by simpa using hg⟩
theorem keptL_mem {L : List ByteArray} {m : Nat} {g : List Nat} {s : ByteArray} (h : s ∈ keptL L m g) : ∃ i, i < m ∧ i ∉ g ∧ s = L.getD i noS := by
  unfold keptL keptI at h
  obtain ⟨i, hi, rfl⟩ := List.mem_map.1 h
  rw [List.mem_filter, List.mem_range] at hi
  exact ⟨i, hi.1, by simpa using hi.2, rfl⟩
theorem own_strs {w : World} {base n : Nat} {e : TypeId} {v : Value} {M : List ByteArray} (h : w.ownsRow base e 1 v n (M.map Value.string)) (hM : M.length = n) : StrsIn w v M := by
  rcases h.2 with ⟨rfl, h0⟩ | ⟨g, cap, cur, rfl, hb, hg, h1, h2, h3, h4⟩
  · obtain rfl : M = [] := List.eq_nil_of_length_eq_zero (by omega)
    exact .empty none 0 (by unfold maxLen; omega)
  · subst hM
    by_cases h0 : M.length = 0
    · obtain rfl : M = [] := List.eq_nil_of_length_eq_zero h0
      exact .empty _ cap h2
    · exact .some g 0 cap M (by omega) h1 h2 (fun i hi => by rw [Nat.zero_add]; exact own_at h rfl i hi)
theorem blk_snoc (n : Nat) (L : List ByteArray) (g : List Nat) (i : Nat) : blkL5 n L (g ++ [i]) = (blkL5 n L g).set i (zs n) := by unfold blkL5; rw [List.foldl_append]; rfl
theorem take_succ_nat (l : List Nat) (k : Nat) (h : k < l.length) : l.take (k + 1) = l.take k ++ [l.getD k 0] := by
  rw [List.take_add_one, List.getElem?_eq_getElem h, List.getD_eq_getElem?_getD, List.getElem?_eq_getElem h]; rfl
theorem IntsAt.at {w : World} {B : Nat} {v : Value} {g : List Nat} (h : IntsAt w B v (g.map (fun i : Nat => (i : Int)))) : ∃ a cap, v = .slice a g.length cap ∧ ∃ G, (0 < g.length → a = Option.some ⟨G, 0, none⟩) ∧ (0 < g.length → B ≤ G) ∧ ∀ i, i < g.length → w.cell? ⟨G, i, none⟩ = Option.some (.int .i64 ((g.getD i 0 : Nat) : Int)) := by
  obtain ⟨l, hl⟩ : ∃ l, l = g.map (fun i : Nat => (i : Int)) := ⟨_, rfl⟩
  rw [← hl] at h
  have hL : l.length = g.length := by rw [hl, List.length_map]
  cases h with
  | empty a cap h =>
    have h0 : g.length = 0 := by simpa using hL.symm
    rw [← h0]
    exact ⟨a, cap, by rw [h0], 0, fun h => absurd h (by omega), fun h => absurd h (by omega), fun i hi => absurd hi (by omega)⟩
  | some G cap l h0 h1 h2 hB hc =>
    refine ⟨_, cap, by rw [hL], G, fun _ => rfl, fun _ => hB, fun i hi => ?_⟩
    rw [hc i (by omega), hl]
    simp [List.getD_eq_getElem?_getD, List.getElem?_eq_getElem hi]

set_option maxRecDepth 100000 in
set_option maxHeartbeats 8000000 in
theorem blank_anyL5 {w : World} {R f b C k cap : Nat} {gv : Value} {L : List ByteArray} {cnt : Nat → Int} (h : RowInL5 w R f b C k cap gv L cnt) (hk1 : 2 ≤ k) (hk2 : k ≤ 30) (hs : ∀ i, i < L.length → (L.getD i noS).size ≤ maxLen) (B : Nat) (hB : C < B ∧ B ≤ w.heap.size) (g : List Nat) (hg : IntsAt w B gv (g.map (fun i : Nat => (i : Int)))) (hgl : g.length ≤ 2) (hgr : ∀ x, x ∈ g → x < k + 2) :
    Calls Tryz.prog 114 #[.pointer (some ⟨R, 0, none⟩)] w fun e w' => e = .returned (.int .i64 (fitE (keptL L (k + 2) g))) ∧ (fitE (keptL L (k + 2) g) = 0 → RowInL5 w' R f b C k cap gv (blkL5 ((keptL L (k + 2) g).getD 0 noS).size L g) cnt) ∧ Sp [C] w w' := by
  obtain ⟨i0, hi, hz0, hz1, hz2⟩ := info_parts info_str5
  have hl := h.len
  have hcap1 := h.cap1
  have e2 := h.r2
  have H : Hid (RowInL5 w R f b C k cap gv L cnt) := h
  obtain ⟨M, hM⟩ : ∃ M, M = keptL L (k + 2) g := ⟨_, rfl⟩
  rw [← hM]
  obtain ⟨E, hE⟩ : ∃ E, E = fitE M := ⟨_, rfl⟩
  rw [← hE]
  obtain ⟨x0, hx0⟩ : ∃ x0, x0 = M.getD 0 noS := ⟨_, rfl⟩
  rw [← hx0]
  have HM : Hid (M = keptL L (k + 2) g) := hM
  have HE : Hid (E = fitE M) := hE
  have HX0 : Hid (x0 = M.getD 0 noS) := hx0
  clear h hM hE hx0
  go_enter Tryz.func114, Tryz.ntmps114
  go_wp2
  go_loopw [3, 15] (fun v i wr => ∃ m : Nat, m ≤ k + 2 ∧ i = .int .i64 m ∧ wr.ownsRow w.heap.size 9 1 v (keptL L m g).length ((keptL L m g).map Value.string) ∧ Kp w wr) (fun _ i _ => k + 2 - (intOf i).toNat)
  case atStart => exact ⟨0, by omega, rfl, World.ownsRow_nil _ _ _ _, Kp.refl w⟩
  case round =>
    obtain ⟨m, hm, rfl, hown, hK⟩ := hrel
    by_cases hlt : m < k + 2
    · have hcm := hK.held (H.out.cols.c m (by omega))
      have e3 := (H.out.kp hK).r3
      have hC := contains_any gv _ (m : Int) B wr (hg.kept hK)
      rw [contains_nat] at hC
      obtain ⟨s, hse⟩ : ∃ s, s = L.getD m noS := ⟨_, rfl⟩
      rw [← hse] at hcm
      have HS : Hid (s = L.getD m noS) := hse
      have hle := keptL_le L m g
      have hz := hK.size
      clear hse hs
      by_cases hct : g.contains m = true
      · have HO : Hid (keptL L (m + 1) g = keptL L m g) := keptL_out hct
        rw [hct] at hC
        clear hct
        go_wp2_with (go_at_call 69; refine hC.mono ?_; rintro e w2 ⟨rfl, rfl⟩)
        go_roundw
        case rel => exact ⟨m + 1, by omega, by go_num, by rw [HO.out]; exact hown, hK⟩
        case measure => simp [intOf] <;> omega
      · have hcf : g.contains m = false := by simpa using hct
        have HO : Hid (keptL L (m + 1) g = keptL L m g ++ [L.getD m noS]) := keptL_in hcf
        rw [hcf] at hC
        clear hct hcf
        go_wp2_with fail
        refine hC.mono ?_; rintro e w2 ⟨rfl, rfl⟩
        go_wp2_with (at_builtin; refine wpList_append_own _ rfl _ _ 67 rfl w.heap.size 9 i0 (.string ByteArray.empty) 1 16 Tryz.underlying67 hi hz0 hz1 hz2 rfl (by decide) _ _ _ rfl (hown.alloc _) ⟨w2.heap.size, 0, none⟩ 1 1 [.string s] rfl rfl ?c1 ?c2 ?c3 ?c4 ?c5 ?_)
        case c1 =>
          intro j u hj
          match j, hj with
          | 0, hj => simp at hj; subst hj; simp [Addr.add]
        case c2 => intro u hu; simp at hu; subst hu; rfl
        case c3 => unfold maxLen; omega
        case c4 => omega
        case c5 => simp; omega
        · intro v' w3 hown3 hgrow3 _
          have hK3 : Kp w w3 := (hK.alloc _).grown hgrow3 (own_lt hown)
          clear hgrow3 hown hK
          go_wp2
          go_roundw
          case rel => exact ⟨m + 1, by omega, by go_num, by rw [HO.out]; simpa [HS.out] using hown3, hK3⟩
          case measure => simp [intOf] <;> omega
    · obtain rfl : m = k + 2 := by omega
      have hkz : ∀ i, i < (keptL L (k + 2) g).length → ((keptL L (k + 2) g).getD i noS).size ≤ maxLen := fun i hi => by
        obtain ⟨j, hj, _, e⟩ := keptL_mem (mem_of_at _ i hi)
        rw [e]; exact hs j (by omega)
      have hpos : 0 < (keptL L (k + 2) g).length := keptL_pos hgl (by omega)
      have hA := add_any _ _ hkz wr (own_strs hown rfl)
      rw [← HM.out] at hA hown hpos
      clear hkz hs
      rcases hown.2 with ⟨rfl, h0⟩ | ⟨Kb, kc, cur, rfl, hKb, hcur, r1, r2, r3, r4⟩
      · omega
      have hk0 : wr.cell? ⟨Kb, 0, none⟩ = some (.string (M.getD 0 noS)) := own_at hown rfl 0 hpos
      obtain ⟨A, hA'⟩ : ∃ A, A = resOf M (addS M) := ⟨_, rfl⟩
      have hfit := fit_is M
      rw [← HE.out] at hA hfit
      rw [← hA'] at hA
      have hr := fit_range M
      rw [← HE.out] at hr
      obtain ⟨ml, hml⟩ : ∃ ml, ml = M.length := ⟨_, rfl⟩
      rw [← hml] at hA hpos hown r1 ⊢
      have h65 : E = 0 → (M.getD 0 noS).size ≤ 65536 := fun h0 => (hfit h0).1 0 (by omega)
      rw [← HX0.out] at hk0 h65
      clear hA' hfit hml r3 r4 hcur hown
      go_wp2_with fail
      refine hA.mono ?_; rintro e w2 ⟨rfl, k2⟩
      have K2 := hK.trans k2
      have hk2' := k2.held hk0
      clear hA k2 hk0 hK
      by_cases h0 : E = 0
      · have hx := h65 h0
        subst h0
        have h2 := H.out.kp K2
        have e3 := h2.r3
        have hg2 := hg.kept K2
        obtain ⟨ga, gc, rfl, G, ha, hBG, hgc⟩ := hg2.at
        have HG : Hid (∀ i, i < g.length → w2.cell? ⟨G, i, none⟩ = some (.int .i64 ((g.getD i 0 : Nat) : Int))) := hgc
        have H2 : Hid (RowInL5 w2 R f b C k cap (.slice ga g.length gc) L cnt) := h2
        have hKb2 : Kb ≠ C := by have := H.out.cols.hC; omega
        clear hgc h2 hg2 hg hr h65 H
        go_wp2
        go_loopw [45] (fun i wr => ∃ m : Nat, m ≤ g.length ∧ i = .int .i64 m ∧ RowInL5 wr R f b C k cap (.slice ga g.length gc) (blkL5 x0.size L (g.take m)) cnt ∧ Sp [C] w2 wr) (fun i _ => g.length - (intOf i).toNat)
        case atStart => exact ⟨0, by omega, rfl, H2.out, Sp.refl _ _⟩
        case round =>
          obtain ⟨m, hm, rfl, hrow, hS⟩ := hrel
          by_cases hlt : m < g.length
          · obtain rfl := ha (by omega)
            have hGB := hBG (by omega)
            have hgm := hS.held (HG.out m hlt) (by simp; omega)
            have hx := hgr (g.getD m 0) (by rw [List.getD_eq_getElem?_getD, List.getElem?_eq_getElem hlt]; exact List.getElem_mem hlt)
            have hk3 := hS.held hk2' (by simpa using hKb2)
            have HT : Hid (g.take (m + 1) = g.take m ++ [g.getD m 0]) := take_succ_nat g m hlt
            obtain ⟨i, hii⟩ : ∃ i, i = g.getD m 0 := ⟨_, rfl⟩
            rw [← hii] at hgm hx HT
            have hN := noughts_any (x0.size : Int) (by omega) (by omega) wr.drew
            rw [show noughtN (x0.size : Int) = x0.size by unfold noughtN; omega] at hN
            obtain ⟨f1, _, _, _⟩ := hrow.facts i hx
            have HR : Hid (RowInL5 wr R f b C k cap (.slice (some ⟨G, 0, none⟩) g.length gc) (blkL5 x0.size L (g.take m)) cnt) := hrow
            have HSS : Hid (Sp [C] w2 wr) := hS
            clear hrow hS hii e3 hBG ha
            go_wp2_with fail
            have j1 : (0 : Int) ≤ (i : Int) := by omega
            have j2 : (i : Int) < (k : Int) + 2 := by omega
            go_region_held3 (fun w' => w'.cell? ⟨R, 2, none⟩ = some (.slice (some ⟨C, 0, none⟩) (k + 2) cap) ∧ w'.cell? ⟨Kb, 0, none⟩ = some (.string x0)) (first | go_keep | exact ⟨f1, f5⟩ | exact ⟨f4 _, f6 _⟩)
              (first | (go_at_call 148; refine hN.mono ?_; rintro e w4 ⟨rfl, k4⟩; have k4' := (Kp.refl wr).drew.trans k4; have h4 := HR.out.kp k4'; obtain ⟨f1, f2, f3, f4⟩ := h4.facts i hx; have f5 := k4'.held hk3; have f6 : ∀ v, (w4.setCell ⟨C, i, none⟩ v).cell? ⟨Kb, 0, none⟩ = some (.string x0) := fun v => (World.cell?_setCell_other _ _ _ _ (by intro e; cases e; exact hKb2 rfl)).trans f5))
            go_wp2
            go_roundw
            case rel => exact ⟨m + 1, by omega, by go_num, by rw [HT.out, blk_snoc]; exact h4.set i hx _, (HSS.out.trans (k4'.sp [C])).set C i (by simp) _⟩
            case measure => simp [intOf] <;> omega
          · obtain rfl : m = g.length := by omega
            rw [List.take_length] at hrow
            go_wp2
            go_ret
            exact ⟨rfl, hrow, (K2.sp [C]).trans hS⟩
      · have hEn : (E == 0) = false := by rw [beq_eq_false_iff_ne]; exact h0
        go_wp2
        go_ret
        exact ⟨rfl, fun h => absurd h h0, K2.sp [C]⟩

end Go.Proofs.YtonooelffokfkaaGreatDoor

namespace Go.Proofs.YtonooelffokfkaaGreatDoor
open Go.RowKit Plain Go.BigFrame
set_option linter.unusedVariables false

/-! ### plain -/
/-- the kind, by which columns are lost. -/
def kdN (k : Nat) : List Nat → Nat
  | [] => 0
  | [i] => if i < k then 1 else if i = k then 2 else 3
  | [i, j] => if j = k + 1 then (if i = k then 6 else 5) else if j = k then 4 else 7
  | _ => 0
theorem kdN_lt (k : Nat) (g : List Nat) : kdN k g < 8 := by
  unfold kdN
  split
  · omega
  · split
    · omega
    · split <;> omega
  · split
    · split <;> omega
    · split <;> omega
  · omega
theorem kd_is (k : Nat) (g : List Nat) (hl : g.length ≤ 2) (hr : g.Pairwise (fun x y => x < y)) (hx : ∀ x, x ∈ g → x < k + 2) : kdG (k : Int) (g.map (fun i : Nat => (i : Int))) = (kdN k g : Nat) := by
  unfold kdG
  rw [show (k : Int) + 1 = ((k + 1 : Nat) : Int) by omega, contains_nat, contains_nat, List.length_map]
  match g, hl, hr, hx with
  | [], _, _, _ => rfl
  | [i], _, _, hx =>
    have := hx i (by simp)
    have h1 : i < k ∨ i = k ∨ i = k + 1 := by omega
    rcases h1 with h | rfl | rfl
    · have e1 : ([i].contains k) = false := by simp; omega
      have e2 : ([i].contains (k + 1)) = false := by simp; omega
      rw [e1, e2]; simp [kdN, kdB, h]
    · have e2 : ([i].contains (i + 1)) = false := by simp
      rw [e2]; simp [kdN, kdB]
    · have e1 : ([k + 1].contains k) = false := by simp
      rw [e1]; simp [kdN, kdB, show ¬ k + 1 < k by omega]
  | [i, j], _, hr, hx =>
    have := hx j (by simp)
    have hij : i < j := by simpa using hr
    have h1 : j < k ∨ j = k ∨ j = k + 1 := by omega
    rcases h1 with h | rfl | rfl
    · have e1 : ([i, j].contains k) = false := by simp; omega
      have e2 : ([i, j].contains (k + 1)) = false := by simp; omega
      rw [e1, e2]
      simp [kdN, kdB, show ¬ j = k + 1 by omega, show ¬ j = k by omega]
    · have e1 : ([i, j].contains j) = true := by simp
      have e2 : ([i, j].contains (j + 1)) = false := by simp; omega
      rw [e1, e2]
      simp [kdN, kdB]
    · by_cases h : i = k
      · subst h
        simp [kdN, kdB]
      · have e1 : ([i, k + 1].contains k) = false := by simp; omega
        have e2 : ([i, k + 1].contains (k + 1)) = true := by simp
        rw [e1, e2]
        simp [kdN, kdB, h]
  | _ :: _ :: _ :: _, hl, _, _ => exact absurd hl (by simp)

theorem blk_length (n : Nat) : ∀ (g : List Nat) (L : List ByteArray), (blkL5 n L g).length = L.length
  | [], _ => rfl
  | i :: g, L => by show (blkL5 n (L.set i (zs n)) g).length = _; rw [blk_length n g, List.length_set]
theorem blk_at (n : Nat) : ∀ (g : List Nat) (L : List ByteArray) (i : Nat), i < L.length → (blkL5 n L g).getD i noS = if i ∈ g then zs n else L.getD i noS
  | [], L, i, _ => by simp [blkL5]
  | j :: g, L, i, h => by
    show (blkL5 n (L.set j (zs n)) g).getD i noS = _
    rw [blk_at n g _ i (by rw [List.length_set]; exact h)]
    by_cases hg : i ∈ g
    · rw [if_pos hg, if_pos (by simp [hg])]
    · rw [if_neg hg]
      by_cases e : i = j
      · subst e; rw [getD_set_eqL5 h, if_pos (by simp)]
      · rw [getD_set_neL5 (fun e' => e e'.symm), if_neg (by simp [e, hg])]
theorem sz_of_at {n : Nat} {l : List ByteArray} (h : ∀ i, i < l.length → (l.getD i noS).size = n) : Sz n l := all_of_at (P := fun s => s.size = n) h
/-- the length of the columns that are there. -/
def lnS (L : List ByteArray) (g : List Nat) : Nat := ((keptL L L.length g).getD 0 noS).size
theorem blk_sz {L : List ByteArray} {g : List Nat} (h : fitE (keptL L L.length g) = 0) : Sz (lnS L g) (blkL5 (lnS L g) L g) := by
  refine sz_of_at fun i hi => ?_
  rw [blk_length] at hi
  rw [blk_at _ g L i hi]
  split
  · exact zs_size _
  · rename_i hg
    refine fit_all h _ ?_
    unfold keptL keptI
    refine List.mem_map.2 ⟨i, List.mem_filter.2 ⟨List.mem_range.2 hi, by simpa using hg⟩, rfl⟩
theorem ln_le {L : List ByteArray} {g : List Nat} (hg : g.length ≤ 2) (hL : 3 ≤ L.length) (h : fitE (keptL L L.length g) = 0) : lnS L g ≤ 65536 := (fit_is _ h).1 0 (keptL_pos hg hL)
def gnL (L : List ByteArray) (lost : List Int) : List Nat := gn L.length lost
def fxE (L : List ByteArray) (lost : List Int) : Int := if srE ((L.length : Int) - 2) lost = 0 then fitE (keptL L L.length (gnL L lost)) else srE ((L.length : Int) - 2) lost
def fxL (L : List ByteArray) (lost : List Int) : List ByteArray := if fxE L lost = 0 then fixZ (lnS L (gnL L lost)) (L.length - 2) (blkL5 (lnS L (gnL L lost)) L (gnL L lost)) (gnL L lost) else []
def fxC (cnt : Nat → Int) (L : List ByteArray) (lost : List Int) : Nat → Int := if fxE L lost = 0 then upL5 cnt (kdN (L.length - 2) (gnL L lost)) else cnt

theorem sr_zero {d : Int} {l : List Int} (h : srE d l = 0) : 2 ≤ d ∧ d ≤ 30 ∧ inB d l = true ∧ (dst l).length ≤ 2 := by
  unfold srE at h
  by_cases h1 : d < 2 ∨ 30 < d
  · rw [if_pos h1] at h; cases h
  · rw [if_neg h1] at h
    by_cases h2 : inB d l = false
    · rw [if_pos h2] at h; cases h
    · rw [if_neg h2] at h
      by_cases h3 : 2 < (dst l).length
      · rw [if_pos h3] at h; cases h
      · exact ⟨by omega, by omega, by simpa using h2, by omega⟩
theorem in_all {d : Int} {l : List Int} (h : inB d l = true) : ∀ x, x ∈ l → 0 ≤ x ∧ x < d + 2 := fun x hx => of_decide_eq_true (List.all_eq_true.1 h x hx)

/-! ### restore, whatever is lost -/
theorem restore_all {w : World} {R f b C k cap n : Nat} {gv : Value} {L : List ByteArray} {cnt : Nat → Int} (h : RowInL5 w R f b C k cap gv L cnt) (hk1 : 2 ≤ k) (hk2 : k ≤ 30) (hn : n ≤ 65536) (hs : Sz n L) (hq : ∀ j, j < 8 → 0 ≤ cnt j ∧ cnt j < 4611686018427387904)
    (B : Nat) (hB : C < B ∧ b < B) (g : List Nat) (hg : IntsAt w B gv (g.map (fun i : Nat => (i : Int)))) (hl : g.length ≤ 2) (hr : g.Pairwise (fun x y => x < y)) (hx : ∀ x, x ∈ g → x < k + 2) :
    Calls Tryz.prog 115 #[.pointer (some ⟨R, 0, none⟩), .int .i64 ((kdN k g : Nat) : Int)] w fun e w' => e = .returned (.tuple #[]) ∧ RowInL5 w' R f b C k cap gv (fixZ n k L g) (upL5 cnt (kdN k g)) ∧ Sp [C, b, f] w w' := by
  match g, hg, hl, hr, hx with
  | [], _, _, _, _ => exact restore0 h hk1 hk2 hn hs hq
  | [i], hg, _, _, hx =>
    have := hx i (by simp)
    have h1 : i < k ∨ i = k ∨ i = k + 1 := by omega
    rcases h1 with h1 | h1 | h1
    · have e1 : kdN k [i] = 1 := by show (if i < k then 1 else if i = k then 2 else 3) = 1; rw [if_pos h1]
      have e2 : fixZ n k L [i] = byPL n k L i := by show (if i ≤ k then byPL n k L i else mkQL n k L) = _; rw [if_pos (by omega)]
      rw [e1, e2]
      exact restore1 h hk1 hk2 hn hs hq B i hB hg (by omega)
    · have e1 : kdN k [i] = 2 := by show (if i < k then 1 else if i = k then 2 else 3) = 2; rw [if_neg (by omega), if_pos h1]
      have e2 : fixZ n k L [i] = byPL n k L i := by show (if i ≤ k then byPL n k L i else mkQL n k L) = _; rw [if_pos (by omega)]
      rw [e1, e2]
      exact restore2 h hk1 hk2 hn hs hq B i hB hg (by omega)
    · have e1 : kdN k [i] = 3 := by show (if i < k then 1 else if i = k then 2 else 3) = 3; rw [if_neg (by omega), if_neg (by omega)]
      have e2 : fixZ n k L [i] = mkQL n k L := by show (if i ≤ k then byPL n k L i else mkQL n k L) = _; rw [if_neg (by omega)]
      rw [e1, e2]
      exact restore3 h hk1 hk2 hn hs hq
  | [i, j], hg, _, hr, hx =>
    have := hx j (by simp)
    have hij : i < j := by simpa using hr
    by_cases h1 : j = k + 1
    · have e2 : fixZ n k L [i, j] = mkQL n k (byPL n k L i) := by show (if j = k + 1 then mkQL n k (byPL n k L i) else if j = k then byPL n k (byQL n k L i) k else byBL n k L i j) = _; rw [if_pos h1]
      rw [e2]
      by_cases h2 : i = k
      · have e1 : kdN k [i, j] = 6 := by show (if j = k + 1 then (if i = k then 6 else 5) else if j = k then 4 else 7) = 6; rw [if_pos h1, if_pos h2]
        rw [e1]
        exact restore6 h hk1 hk2 hn hs hq B i j hB hg (by omega)
      · have e1 : kdN k [i, j] = 5 := by show (if j = k + 1 then (if i = k then 6 else 5) else if j = k then 4 else 7) = 5; rw [if_pos h1, if_neg h2]
        rw [e1]
        exact restore5 h hk1 hk2 hn hs hq B i j hB hg (by omega)
    · by_cases h2 : j = k
      · have e1 : kdN k [i, j] = 4 := by show (if j = k + 1 then (if i = k then 6 else 5) else if j = k then 4 else 7) = 4; rw [if_neg h1, if_pos h2]
        have e2 : fixZ n k L [i, j] = byPL n k (byQL n k L i) j := by show (if j = k + 1 then mkQL n k (byPL n k L i) else if j = k then byPL n k (byQL n k L i) k else byBL n k L i j) = _; rw [if_neg h1, if_pos h2, h2]
        rw [e1, e2]
        exact restore4 h hk1 hk2 hn hs hq B i j hB hg (by omega) (by omega)
      · have e1 : kdN k [i, j] = 7 := by show (if j = k + 1 then (if i = k then 6 else 5) else if j = k then 4 else 7) = 7; rw [if_neg h1, if_neg h2]
        have e2 : fixZ n k L [i, j] = byBL n k L i j := by show (if j = k + 1 then mkQL n k (byPL n k L i) else if j = k then byPL n k (byQL n k L i) k else byBL n k L i j) = _; rw [if_neg h1, if_neg h2]
        rw [e1, e2]
        exact restore7 h hk1 hk2 hn hs hq B i j hB hg (by omega) (by omega) (by omega)
  | _ :: _ :: _ :: _, _, hl, _, _ => exact absurd hl (by simp)

/-! ### New -/
theorem fixer_new {w1 : World} {b : Nat} (hF : FieldIn w1 b 0 0 0 0) (t : TypeId) : FixIn (w1.alloc (.cells #[.pointer (some ⟨b, 0, none⟩), .int .i64 0, .int .i64 0, .int .i64 0, .int .i64 0, .int .i64 0, .int .i64 0, .int .i64 0, .int .i64 0] t)) w1.heap.size b (fun _ => 0) := by
  have hb := hF.hb
  refine ⟨by simp, by simp; omega, by omega, by rw [World.cell?_alloc_at _ _ _ _ rfl]; rfl, fun j hj => ?_, fun o => ?_, .inl ?_⟩
  · rw [World.cell?_alloc_at _ _ _ _ rfl]
    have h : j = 0 ∨ j = 1 ∨ j = 2 ∨ j = 3 ∨ j = 4 ∨ j = 5 ∨ j = 6 ∨ j = 7 := by omega
    rcases h with rfl | rfl | rfl | rfl | rfl | rfl | rfl | rfl <;> rfl
  · rw [frozen?_alloc_cells]; simp [World.frozen?]
  · exact FieldIn.of_block hF (Below.heap_alloc _ _ _ hb) (by simp)
theorem fnew_any (w : World) : Calls Tryz.prog 61 #[] w fun e w' => ∃ f b, e = .returned (.pointer (some ⟨f, 0, none⟩)) ∧ FixIn w' f b (fun _ => 0) ∧ Kp w w' ∧ w.heap.size ≤ f ∧ w.heap.size ≤ b := by
  go_enter Tryz.func61, Tryz.ntmps61
  go_wp2_with fail
  refine (new_anyL5 w).mono ?_; rintro e w1 ⟨rfl, hw1⟩
  have hF := new_field w 262
  rw [← hw1] at hF
  have K1 : Kp w w1 := by rw [hw1]; exact (Kp.refl w).alloc _
  have hsz : w1.heap.size = w.heap.size + 1 := by rw [hw1]; simp
  clear hw1
  have H := fixer_new hF 220
  rw [hsz] at H
  go_wp2
  go_ret
  exact ⟨w.heap.size + 1, w.heap.size, rfl, H, K1.alloc _, by omega, by omega⟩

/-! ### Fix -/
theorem fx_not {L : List ByteArray} {lost : List Int} (h : srE ((L.length : Int) - 2) lost ≠ 0) : fxE L lost = srE ((L.length : Int) - 2) lost ∧ fxL L lost = [] ∧ ∀ cnt, fxC cnt L lost = cnt := by
  have e : fxE L lost = srE ((L.length : Int) - 2) lost := by unfold fxE; rw [if_neg h]
  refine ⟨e, by unfold fxL; rw [e, if_neg h], fun cnt => by unfold fxC; rw [e, if_neg h]⟩
theorem fx_un {L : List ByteArray} {lost : List Int} (h : srE ((L.length : Int) - 2) lost = 0) : fxE L lost = fitE (keptL L L.length (gnL L lost)) := by unfold fxE; rw [if_pos h]
theorem StrsIn.slice {w : World} {v : Value} {l : List ByteArray} (h : StrsIn w v l) : ∃ a cap, v = .slice a l.length cap ∧ l.length ≤ cap ∧ cap ≤ maxLen := by
  cases h with
  | empty a cap h => exact ⟨a, cap, rfl, by simp, h⟩
  | some b off cap l h0 h1 h2 hc => exact ⟨_, cap, rfl, h1, h2⟩
set_option maxHeartbeats 4000000 in
theorem fix_bad (w : World) (f : Nat) (cv lv : Value) (L : List ByteArray) (lost : List Int) (hL : StrsIn w cv L) (hI : IntsIn w lv lost) (hlo : lost.length * 8 ≤ 140737488355328) (hE : srE ((L.length : Int) - 2) lost ≠ 0) :
    Calls Tryz.prog 64 #[.pointer (some ⟨f, 0, none⟩), cv, lv] w fun e w' => e = .returned (.tuple #[.slice none 0 0, .int .i64 (srE ((L.length : Int) - 2) lost)]) ∧ Kp w w' := by
  obtain ⟨a, cap, rfl, h1, h2⟩ := hL.slice
  have hS := sort_any ((L.length : Int) - 2) lv lost hlo w hI
  obtain ⟨E, hE'⟩ : ∃ E, E = srE ((L.length : Int) - 2) lost := ⟨_, rfl⟩
  rw [← hE'] at hS hE ⊢
  obtain ⟨K, hK'⟩ : ∃ E, E = srK ((L.length : Int) - 2) lost := ⟨_, rfl⟩
  rw [← hK'] at hS
  unfold maxLen at h2
  have hEn : (E == 0) = false := by rw [beq_eq_false_iff_ne]; exact hE
  obtain ⟨n, hn⟩ : ∃ n, n = L.length := ⟨_, rfl⟩
  rw [← hn] at hS h1 ⊢
  clear hE' hK' hL hI hn
  go_enter Tryz.func64, Tryz.ntmps64
  go_wp2_with fail
  refine hS.mono ?_; rintro e w1 ⟨rfl, k1⟩
  go_wp2
  go_ret2
  exact ⟨rfl, k1⟩

theorem clone_any {w : World} {v : Value} {L : List ByteArray} (h : StrsIn w v L) (h0 : 0 < L.length) (hl : L.length ≤ 32) : Calls Tryz.prog 113 #[v] w fun e w' => ∃ C cap, e = .returned (.slice (some ⟨C, 0, none⟩) L.length cap) ∧ L.length ≤ cap ∧ cap ≤ maxLen ∧ w.heap.size ≤ C ∧ ColIn w' C L ∧ Kp w w' := by
  cases h with
  | empty a cap h => exact absurd h0 (by simp)
  | some b off cap l h0 h1 h2 hc =>
    refine (Tryz.slices_Clone_string b off L.length cap L w (Nat.le_refl _) (by omega) hc).mono ?_
    rintro e w' ⟨v', rfl, ho, _, k⟩
    rw [List.take_length] at ho
    rcases ho.2 with ⟨_, hz⟩ | ⟨C, cp, cur, rfl, hC, hcur, r1, r2, r3, r4⟩
    · omega
    · exact ⟨C, cp, rfl, r1, r2, hC, ⟨(Array.getElem?_eq_some_iff.1 hcur).1, fun i hi => own_at ho rfl i hi, fun o => by simp [World.frozen?, hcur]⟩, k⟩

theorem row_new {w3 : World} {f b C cap k : Nat} {gv : Value} {L : List ByteArray} {cnt : Nat → Int} (hf : FixIn w3 f b cnt) (hc : ColIn w3 C L) (hl : L.length = k + 2) (h1 : k + 2 ≤ cap) (h2 : cap ≤ maxLen) (n4 : C ≠ f) (n5 : C ≠ b) (t : TypeId) :
    RowInL5 (w3.alloc (.cells #[.pointer (some ⟨f, 0, none⟩), .int .i64 (k : Int), .slice (some ⟨C, 0, none⟩) (k + 2) cap, gv] t)) w3.heap.size f b C k cap gv L cnt := by
  have K : Kp w3 (w3.alloc (.cells #[.pointer (some ⟨f, 0, none⟩), .int .i64 (k : Int), .slice (some ⟨C, 0, none⟩) (k + 2) cap, gv] t)) := (Kp.refl w3).alloc _
  have := hc.hC
  have := hf.hf
  have := hf.hb
  exact ⟨by simp, by rw [World.cell?_alloc_at _ _ _ _ rfl]; rfl, by rw [World.cell?_alloc_at _ _ _ _ rfl]; rfl, by rw [World.cell?_alloc_at _ _ _ _ rfl]; rfl, by rw [World.cell?_alloc_at _ _ _ _ rfl]; rfl, h1, h2, hl, hc.sp (K.sp []) (by simp), hf.kp K, by omega, by omega, by omega, n4, n5⟩


end Go.Proofs.YtonooelffokfkaaGreatDoor

namespace Go.Proofs.YtonooelffokfkaaGreatDoor
open Go.ChangeShapes Go.WideShapes Go.ChangeAt Go.RowKit Plain
set_option linter.unusedVariables false




def knB (k : Int) : Bool := decide (0 ≤ k ∧ k < 8)
theorem known_any (k : Int) (w : World) : Calls Tryz.prog 131 #[.int .i64 k] w fun e w' => e = .returned (.bool (knB k)) ∧ w' = w := by
  unfold knB
  by_cases h1 : 0 ≤ k
  · by_cases h2 : k < 8
    · rw [decide_eq_true (p := 0 ≤ k ∧ k < 8) ⟨h1, h2⟩]
      go_enter Tryz.func131, Tryz.ntmps131
      go_wp2
      go_ret
      exact ⟨by simp, rfl⟩
    · rw [decide_eq_false (p := 0 ≤ k ∧ k < 8) (by omega)]
      have h2' : 8 ≤ k := by omega
      clear h2
      go_enter Tryz.func131, Tryz.ntmps131
      go_wp2
      go_ret
      exact ⟨by simp; omega, rfl⟩
  · rw [decide_eq_false (p := 0 ≤ k ∧ k < 8) (by omega)]
    have h1' : k < 0 := by omega
    clear h1
    go_enter Tryz.func131, Tryz.ntmps131
    go_wp2
    go_ret
    exact ⟨rfl, rfl⟩


def doneI (cnt : Nat → Int) (k : Int) : Int := if 0 ≤ k ∧ k < 8 then cnt k.toNat else 0


end Go.Proofs.YtonooelffokfkaaGreatDoor

namespace Go.Proofs.YtonooelffokfkaaGreatDoor
open Go.RowKit Plain
set_option linter.unusedVariables false

theorem info_bool : (Tryz.prog.info? 4).map (fun i => (i.zero, i.size, i.bytes)) = some (some (.bool false), 1, 1) := by kernel_rfl
/-- block G holds n yes or no. -/
structure Bools (w : World) (G n : Nat) (f : Nat → Bool) : Prop where
  c : ∀ i, i < n → w.cell? ⟨G, i, none⟩ = some (.bool (f i))
  z : ∀ o, w.frozen? ⟨G, o, none⟩ = false
theorem Bools.new (w : World) (n : Nat) (t : TypeId) : Bools (w.alloc (.cells (madeCells #[.bool false] n) t)) w.heap.size n (fun _ => false) := by
  refine ⟨fun i hi => ?_, fun o => ?_⟩
  · rw [World.cell?_alloc_at _ _ _ _ rfl, ← Array.getElem?_toList, toList_madeCells_one, List.getElem?_replicate, if_pos hi]
  · rw [frozen?_alloc_cells]; simp [World.frozen?]
theorem Bools.set {w : World} {G n : Nat} {f : Nat → Bool} (h : Bools w G n f) (j : Nat) : Bools (w.setCell ⟨G, j, none⟩ (.bool true)) G n (fun i => f i || decide (i = j)) := by
  refine ⟨fun i hi => ?_, fun o => (World.frozen?_setCell _ _ _ _).trans (h.z o)⟩
  by_cases e : i = j
  · subst e; rw [World.cell?_setCell_same _ _ _ (h.c i hi)]; simp
  · rw [cell_off _ _ _ _ _ e, h.c i hi]; simp [e]
theorem Bools.congr {w : World} {G n : Nat} {f g : Nat → Bool} (h : Bools w G n f) (e : ∀ i, i < n → f i = g i) : Bools w G n g := ⟨fun i hi => by rw [← e i hi]; exact h.c i hi, h.z⟩
theorem Bools.kp {w w' : World} {G n : Nat} {f : Nat → Bool} (h : Bools w G n f) (hG : G < w.heap.size) (k : Kp w w') : Bools w' G n f := ⟨fun i hi => k.held (h.c i hi), fun o => (Below.frozen (p := ⟨G, o, none⟩) k hG).trans (h.z o)⟩
/-- which columns are lost. -/
def lsB (l : List Int) (i : Nat) : Bool := decide ((i : Int) ∈ l)
theorem lsB_step (l : List Int) (m : Nat) (hm : m < l.length) (x : Nat) (hx : l.getD m 0 = (x : Int)) (i : Nat) : (lsB (l.take m) i || decide (i = x)) = lsB (l.take (m + 1)) i := by
  unfold lsB
  rw [take_succ_int l m hm, hx, Bool.eq_iff_iff, Bool.or_eq_true, decide_eq_true_iff, decide_eq_true_iff, decide_eq_true_iff, List.mem_append, List.mem_singleton]
  constructor
  · rintro (h | rfl)
    · exact .inl h
    · exact .inr rfl
  · rintro (h | h)
    · exact .inl h
    · exact .inr (by omega)
theorem gn_in {m : Nat} {l : List Int} (h : lsB l m = true) : (gn (m + 1) l).length = (gn m l).length + 1 := by
  unfold lsB at h
  unfold gn; rw [List.range_succ, List.filter_append, List.length_append]
  simp [h]
theorem gn_out {m : Nat} {l : List Int} (h : lsB l m = false) : (gn (m + 1) l).length = (gn m l).length := by
  unfold lsB at h
  unfold gn; rw [List.range_succ, List.filter_append, List.length_append]
  simp [h]
theorem gn_le (m : Nat) (l : List Int) : (gn m l).length ≤ m := by unfold gn; exact Nat.le_trans (List.length_filter_le _ _) (by simp)

set_option maxRecDepth 100000 in
set_option maxHeartbeats 4000000 in
theorem rlost_any (d : Int) (v : Value) (l : List Int) (hl : l.length * 8 ≤ 140737488355328) (w : World) (h : IntsIn w v l) :
    Calls Tryz.prog 118 #[.int .i64 d, v] w fun e w' => ∃ u n, e = .returned (.tuple #[u, .int .i64 n, .int .i64 (srE d l)]) ∧ (srE d l = 0 → ∃ G, u = .slice (some ⟨G, 0, none⟩) (d.toNat + 2) (d.toNat + 2) ∧ w.heap.size ≤ G ∧ G < w'.heap.size ∧ Bools w' G (d.toNat + 2) (lsB l) ∧ n = ((gn (d.toNat + 2) l).length : Nat)) ∧ Kp w w' := by
  by_cases ho : d < 2
  · have e1 := (sr_out (.inl ho) l).1
    rw [e1]
    clear e1
    go_enter Tryz.func118, Tryz.ntmps118
    go_wp2
    go_ret3
    exact ⟨.slice none 0 0, 0, rfl, (fun h => by cases h), Kp.refl _⟩
  by_cases ho2 : 30 < d
  · have e1 := (sr_out (.inr ho2) l).1
    rw [e1]
    have ho' : 2 ≤ d := by omega
    clear e1 ho
    go_enter Tryz.func118, Tryz.ntmps118
    go_wp2
    go_ret3
    exact ⟨.slice none 0 0, 0, rfl, (fun h => by cases h), Kp.refl _⟩
  obtain ⟨k, rfl⟩ : ∃ k : Nat, d = k := ⟨d.toNat, by omega⟩
  have hd1 : 2 ≤ k := by omega
  have hd2 : k ≤ 30 := by omega
  clear ho ho2
  have hmk : ∀ W : World, (Instr.makeSlice 230 (.int .i64 ((k : Int) + 2)) (.int .i64 ((k : Int) + 2))).run Tryz.prog W = .ok (.slice (some ⟨W.heap.size, 0, none⟩) (k + 2) (k + 2)) (W.alloc (.cells (madeCells #[.bool false] (k + 2)) 4)) := fun W =>
    run_make_row' (P := Tryz.prog) 230 4 (.bool false) 1 Tryz.underlying230 info_bool rfl .i64 .i64 (k + 2) (by omega) (by omega) W
  rw [show ((k : Nat) : Int).toNat = k by omega]
  have key : ∀ (a : Option Addr) (b off cap : Nat), v = .slice a l.length cap → (0 < l.length → a = some ⟨b, off, none⟩) → (∀ j, j < l.length → w.cell? ⟨b, off + j, none⟩ = some (.int .i64 (l.getD j 0))) →
      Calls Tryz.prog 118 #[.int .i64 (k : Int), v] w fun e w' => ∃ u n, e = .returned (.tuple #[u, .int .i64 n, .int .i64 (srE (k : Int) l)]) ∧ (srE (k : Int) l = 0 → ∃ G, u = .slice (some ⟨G, 0, none⟩) (k + 2) (k + 2) ∧ w.heap.size ≤ G ∧ G < w'.heap.size ∧ Bools w' G (k + 2) (lsB l) ∧ n = ((gn (k + 2) l).length : Nat)) ∧ Kp w w' := by
    rintro a b off cap rfl ha hc
    clear h
    obtain ⟨E, hE⟩ : ∃ E, E = srE (k : Int) l := ⟨_, rfl⟩
    rw [← hE]
    have HE : Hid (E = srE (k : Int) l) := hE
    clear hE
    have K0 : Kp w (w.alloc (.cells (madeCells #[.bool false] (k + 2)) 4)) := (Kp.refl w).alloc _
    have B0 := Bools.new w (k + 2) 4
    obtain ⟨W0, hW0⟩ : ∃ W0, W0 = w.alloc (.cells (madeCells #[.bool false] (k + 2)) 4) := ⟨_, rfl⟩
    have hz0 : W0.heap.size = w.heap.size + 1 := by rw [hW0]; simp
    rw [← hW0] at K0 B0
    have hm0 := hmk w
    rw [← hW0] at hm0
    clear hmk hW0
    go_enter Tryz.func118, Tryz.ntmps118
    go_wp2
    go_loopw [8] (fun i wr => ∃ m : Nat, m ≤ l.length ∧ i = .int .i64 m ∧ (∀ j, j < m → 0 ≤ l.getD j 0 ∧ l.getD j 0 < (k : Int) + 2) ∧ Bools wr w.heap.size (k + 2) (lsB (l.take m)) ∧ Kp w wr ∧ w.heap.size < wr.heap.size) (fun i _ => l.length - (intOf i).toNat)
    case atStart => exact ⟨0, Nat.zero_le _, rfl, fun j hj => absurd hj (by omega), B0.congr (fun i _ => by simp [lsB]), K0, by omega⟩
    case round =>
      obtain ⟨m, hm, rfl, hA, hBo, hK, hzz⟩ := hrel
      have HA : Hid (∀ j, j < m → 0 ≤ l.getD j 0 ∧ l.getD j 0 < (k : Int) + 2) := hA
      clear hA hm0
      by_cases hlt : m < l.length
      · obtain rfl := ha (by omega)
        have hcm := hK.held (hc m hlt)
        have HN : Hid (¬ (0 ≤ l.getD m 0 ∧ l.getD m 0 < (k : Int) + 2) → srE (k : Int) l = 3) := fun hh => (sr_not (by omega) (by omega) hlt hh).1
        obtain ⟨x, hx⟩ : ∃ x, x = l.getD m 0 := ⟨_, rfl⟩
        have HX : Hid (x = l.getD m 0) := hx
        rw [← hx] at hcm HN
        clear hx hc ha
        by_cases hx0 : x < 0
        · go_wp2
          go_ret3
          have e1 := HN.out (by omega)
          exact ⟨.slice none 0 0, 0, by rw [HE.out, e1]; rfl, (fun h => by rw [HE.out, e1] at h; cases h), hK⟩
        · by_cases hx1 : (k : Int) + 2 ≤ x
          · have hx0' : 0 ≤ x := by omega
            clear hx0
            go_wp2
            go_ret3
            have e1 := HN.out (by omega)
            exact ⟨.slice none 0 0, 0, by rw [HE.out, e1]; rfl, (fun h => by rw [HE.out, e1] at h; cases h), hK⟩
          · obtain ⟨y, rfl⟩ : ∃ y : Nat, x = y := ⟨x.toNat, by omega⟩
            have hy : y < k + 2 := by omega
            clear hx0 hx1
            have hcy := hBo.c y hy
            have hzy := hBo.z y
            have HB2 : Hid (Bools (wr.setCell ⟨w.heap.size, y, none⟩ (.bool true)) w.heap.size (k + 2) (lsB (l.take (m + 1)))) := (hBo.set y).congr (fun i _ => lsB_step l m hlt y HX.out.symm i)
            have HK2 : Hid (Kp w (wr.setCell ⟨w.heap.size, y, none⟩ (.bool true))) := hK.set _ _ (Nat.le_refl _) _
            clear hBo hK
            go_wp2
            go_roundw
            case rel =>
              refine ⟨m + 1, by omega, by go_num, fun j hj => ?_, HB2.out, HK2.out, by simpa [World.setCell] using hzz⟩
              by_cases e : j = m
              · rw [e, ← HX.out]; omega
              · exact HA.out j (by omega)
            case measure => simp [intOf]; omega
      · obtain rfl : m = l.length := by omega
        have hin := sr_in HA.out
        rw [List.take_length] at hBo
        have hall : ∀ x, x ∈ l → 0 ≤ x ∧ x < ((k + 2 : Nat) : Int) := fun x hx => by have := in_all hin x hx; omega
        have hdl : (dst l).length = (gn (k + 2) l).length := by rw [dst_gn (k + 2) l hall, List.length_map]
        have HM : Hid (2 < (gn (k + 2) l).length → srE (k : Int) l = 20) := fun hh => (sr_many (by omega) (by omega) hin (by rw [hdl]; exact hh)).1
        have HO : Hid (¬ 2 < (gn (k + 2) l).length → srE (k : Int) l = 0) := fun hh => (sr_ok (by omega) (by omega) hin (by rw [hdl]; exact hh)).1
        clear hall hdl hin HA hc ha
        go_wp2
        go_loop [9, 10] (fun n i => ∃ m : Nat, m ≤ k + 2 ∧ i = .int .i64 m ∧ n = .int .i64 ((gn m l).length : Nat)) (fun _ i => k + 2 - (intOf i).toNat)
        case atStart => exact ⟨0, Nat.zero_le _, rfl, rfl⟩
        case round =>
          obtain ⟨m, hm, rfl, rfl⟩ := hrel
          have hgl := gn_le m l
          by_cases hlt : m < k + 2
          · have hcm := hBo.c m hlt
            by_cases hb : lsB l m = true
            · have HG : Hid ((gn (m + 1) l).length = (gn m l).length + 1) := gn_in hb
              rw [hb] at hcm
              obtain ⟨n, hn⟩ : ∃ n, n = (gn m l).length := ⟨_, rfl⟩
              rw [← hn] at HG hgl ⊢
              clear hn hb
              go_wp2
              go_round
              case rel => exact ⟨m + 1, by omega, by go_num, by rw [HG.out]; go_num⟩
              case measure => simp [intOf]; omega
            · have hb' : lsB l m = false := by simpa using hb
              have HG : Hid ((gn (m + 1) l).length = (gn m l).length) := gn_out hb'
              rw [hb'] at hcm
              obtain ⟨n, hn⟩ : ∃ n, n = (gn m l).length := ⟨_, rfl⟩
              rw [← hn] at HG hgl ⊢
              clear hn hb hb'
              go_wp2
              go_round
              case rel => exact ⟨m + 1, by omega, by go_num, by rw [HG.out]⟩
              case measure => simp [intOf]; omega
          · obtain rfl : m = k + 2 := by omega
            obtain ⟨n, hn⟩ : ∃ n, n = (gn (k + 2) l).length := ⟨_, rfl⟩
            have HG : Hid (n = (gn (k + 2) l).length) := hn
            rw [← hn] at hgl HM HO ⊢
            clear hn
            by_cases h2 : 2 < n
            · go_wp2
              go_ret3
              have e1 := HM.out h2
              exact ⟨.slice none 0 0, 0, by rw [HE.out, e1]; rfl, (fun h => by rw [HE.out, e1] at h; cases h), hK⟩
            · go_wp2
              go_ret3
              have e1 := HO.out h2
              exact ⟨.slice (some ⟨w.heap.size, 0, none⟩) (k + 2) (k + 2), (n : Int), by rw [HE.out, e1]; rfl, fun _ => ⟨w.heap.size, rfl, Nat.le_refl _, hzz, hBo, by rw [← HG.out]⟩, hK⟩
  cases h with
  | empty a cap h => exact key a 0 0 cap rfl (fun h => absurd h (by simp)) (fun j hj => absurd hj (by simp))
  | some b off cap l h0 h1 h2 hc => exact key _ b off cap rfl (fun _ => rfl) hc

end Go.Proofs.YtonooelffokfkaaGreatDoor

namespace Go.Proofs.YtonooelffokfkaaGreatDoor
open Go.RowKit Plain
set_option linter.unusedVariables false

theorem dst_has (l : List Int) (x : Int) : (dst l).contains x = decide (x ∈ l) := by
  rw [Bool.eq_iff_iff, List.contains_iff_mem, decide_eq_true_iff, dst_mem]
theorem sr_kd {k : Nat} {l : List Int} (h : srE (k : Int) l = 0) : srK (k : Int) l = kdB (lsB l k) (lsB l (k + 1)) ((gn (k + 2) l).length == 2) ((gn (k + 2) l).length == 1) ∧ (gn (k + 2) l).length ≤ 2 ∧ ((gn (k + 2) l).length = 0 → lsB l k = false ∧ lsB l (k + 1) = false) := by
  obtain ⟨h1, h2, hin, hl⟩ := sr_zero h
  have hall : ∀ x, x ∈ l → 0 ≤ x ∧ x < ((k + 2 : Nat) : Int) := fun x hx => by have := in_all hin x hx; omega
  have hdl : (dst l).length = (gn (k + 2) l).length := by rw [dst_gn (k + 2) l hall, List.length_map]
  refine ⟨?_, by omega, fun h0 => ?_⟩
  · unfold srK kdG
    rw [if_pos h, dst_has, dst_has, hdl]; rfl
  · have hnil : gn (k + 2) l = [] := List.eq_nil_of_length_eq_zero h0
    have hno : ∀ i, i < k + 2 → lsB l i = false := fun i hi => by
      unfold lsB
      rw [decide_eq_false_iff_not]
      intro hm
      have : i ∈ gn (k + 2) l := (gn_mem _ _ _).2 ⟨hi, hm⟩
      rw [hnil] at this
      cases this
    exact ⟨hno k (by omega), hno (k + 1) (by omega)⟩

set_option maxRecDepth 100000 in
set_option maxHeartbeats 4000000 in
theorem rsort_any (d : Int) (v : Value) (l : List Int) (hl : l.length * 8 ≤ 140737488355328) (w : World) (h : IntsIn w v l) :
    Calls Tryz.prog 68 #[.int .i64 d, v] w fun e w' => e = .returned (.tuple #[.int .i64 (srK d l), .int .i64 (srE d l)]) ∧ Kp w w' := by
  have H := rlost_any d v l hl w h
  by_cases hE : srE d l = 0
  · obtain ⟨h1, h2, _, _⟩ := sr_zero hE
    obtain ⟨k, rfl⟩ : ∃ k : Nat, d = k := ⟨d.toNat, by omega⟩
    obtain ⟨e1, e2, e3⟩ := sr_kd hE
    rw [e1, hE]
    rw [hE] at H
    rw [show ((k : Nat) : Int).toNat = k by omega] at H
    have i1 : 2 ≤ k := by omega
    have i2 : k ≤ 30 := by omega
    clear e1 hE h
    obtain ⟨n, hn⟩ : ∃ n, n = (gn (k + 2) l).length := ⟨_, rfl⟩
    rw [← hn] at H e2 e3 ⊢
    obtain ⟨p, hp⟩ : ∃ p, p = lsB l k := ⟨_, rfl⟩
    obtain ⟨q, hq⟩ : ∃ q, q = lsB l (k + 1) := ⟨_, rfl⟩
    rw [← hp, ← hq] at e3 ⊢
    have HP : Hid (p = lsB l k) := hp
    have HQ : Hid (q = lsB l (k + 1)) := hq
    clear hn hp hq h1 h2
    go_enter Tryz.func68, Tryz.ntmps68
    go_wp2_with fail
    refine H.mono ?_; rintro e w1 ⟨u, n', rfl, hG, k1⟩
    obtain ⟨G, rfl, _, _, hB, rfl⟩ := hG (by trivial)
    have c1 := hB.c k (by omega)
    have c2 := hB.c (k + 1) (by omega)
    rw [← HP.out] at c1
    rw [← HQ.out] at c2
    clear H hG hB HP HQ
    have hn : n = 0 ∨ n = 1 ∨ n = 2 := by omega
    rcases hn with rfl | rfl | rfl
    · obtain ⟨rfl, rfl⟩ := e3 rfl
      go_wp2
      go_ret2
      exact ⟨rfl, k1⟩
    · cases p <;> cases q
      all_goals
        go_wp2
        go_ret2
        exact ⟨rfl, k1⟩
    · cases p <;> cases q
      all_goals
        go_wp2
        go_ret2
        exact ⟨rfl, k1⟩
  · have e2 : srK d l = 0 := by unfold srK; rw [if_neg hE]
    rw [e2]
    obtain ⟨E, hE'⟩ : ∃ E, E = srE d l := ⟨_, rfl⟩
    rw [← hE'] at H hE ⊢
    have hEn : (E == 0) = false := by rw [beq_eq_false_iff_ne]; exact hE
    clear hE' e2 h
    go_enter Tryz.func68, Tryz.ntmps68
    go_wp2_with fail
    refine H.mono ?_; rintro e w1 ⟨u, n', rfl, _, k1⟩
    go_wp2
    go_ret2
    exact ⟨rfl, k1⟩


theorem IntsIn.cut {w : World} {a : Option Addr} {len cap : Nat} {l : List Int} (h : IntsIn w (.slice a len cap) l) (n : Nat) : len = l.length ∧ len ≤ cap ∧ cap ≤ maxLen ∧ (n < len → IntsIn w (.slice a n cap) (l.take n)) := by
  cases h with
  | empty a cap h => exact ⟨rfl, by omega, h, fun hn => absurd hn (by omega)⟩
  | some b off cap l h0 h1 h2 hc =>
    refine ⟨rfl, h1, h2, fun hn => ?_⟩
    by_cases hn0 : n = 0
    · subst hn0; exact .empty _ _ h2
    · have hl : (l.take n).length = n := by rw [List.length_take]; omega
      have H := IntsIn.some (w := w) b off cap (l.take n) (by omega) (by omega) h2 (fun i hi => by
        rw [hc i (by omega), List.getD_eq_getElem?_getD, List.getD_eq_getElem?_getD, List.getElem?_take_of_lt (by omega)])
      rwa [hl] at H

end Go.Proofs.YtonooelffokfkaaGreatDoor

namespace Go.Proofs.YtonooelffokfkaaGreatDoor
open Go.RowKit Plain Go.BigFrame
set_option linter.unusedVariables false

/-! ### equal -/
theorem StrsIn.parts {w : World} {v : Value} {l : List ByteArray} (h : StrsIn w v l) : ∃ a b off cap, v = .slice a l.length cap ∧ l.length ≤ cap ∧ cap ≤ maxLen ∧ (0 < l.length → a = Option.some ⟨b, off, none⟩) ∧ ∀ i, i < l.length → w.cell? ⟨b, off + i, none⟩ = Option.some (.string (l.getD i noS)) := by
  cases h with
  | empty a cap h => exact ⟨a, 0, 0, cap, rfl, by simp, h, fun h => absurd h (by simp), fun i hi => absurd hi (by simp)⟩
  | some b off cap l h0 h1 h2 hc => exact ⟨_, b, off, cap, rfl, h1, h2, fun _ => rfl, hc⟩
theorem list_eq {A B : List ByteArray} (hl : A.length = B.length) (h : ∀ j, j < A.length → A.getD j noS = B.getD j noS) : A = B := by
  apply List.ext_getElem hl
  intro i h1 h2
  have := h i h1
  rwa [List.getD_eq_getElem?_getD, List.getD_eq_getElem?_getD, List.getElem?_eq_getElem h1, List.getElem?_eq_getElem h2] at this

set_option maxRecDepth 100000 in
set_option maxHeartbeats 4000000 in
theorem equal_any (va vb : Value) (A B : List ByteArray) (w : World) (hA : StrsIn w va A) (hB : StrsIn w vb B) : Calls Tryz.prog 32 #[va, vb] w fun e w' => e = .returned (.bool (decide (A = B))) ∧ Kp w w' := by
  obtain ⟨a1, b1, o1, c1, rfl, x1, x2, x3, x4⟩ := hA.parts
  obtain ⟨a2, b2, o2, c2, rfl, y1, y2, y3, y4⟩ := hB.parts
  clear hA hB
  unfold maxLen at x2 y2
  by_cases hl : A.length = B.length
  case neg =>
    rw [decide_eq_false (fun e => hl (by rw [e]))]
    have hne : ((A.length : Int) == (B.length : Int)) = false := by simp; omega
    obtain ⟨m, hm⟩ : ∃ m, m = A.length := ⟨_, rfl⟩
    obtain ⟨n, hn⟩ : ∃ m, m = B.length := ⟨_, rfl⟩
    rw [← hm, ← hn] at hne ⊢
    clear hl x1 x3 x4 y1 y3 y4 hm hn
    go_enter Tryz.func32, Tryz.ntmps32
    go_wp2
    go_ret
    exact ⟨rfl, Kp.refl _⟩
  rw [← hl] at y1 y3 y4 ⊢
  obtain ⟨R, hR⟩ : ∃ R, R = decide (A = B) := ⟨_, rfl⟩
  rw [← hR]
  have HR : Hid (R = decide (A = B)) := hR
  have HL : Hid (A.length = B.length) := hl
  clear hR hl
  have H1 : Hid (∀ i, i < A.length → w.cell? ⟨b1, o1 + i, none⟩ = some (.string (A.getD i noS))) := x4
  have H2 : Hid (∀ i, i < A.length → w.cell? ⟨b2, o2 + i, none⟩ = some (.string (B.getD i noS))) := y4
  clear x4 y4
  go_enter Tryz.func32, Tryz.ntmps32
  go_wp2
  go_loopw [13] (fun i wr => ∃ k : Nat, k ≤ A.length ∧ i = .int .i64 k ∧ (∀ j, j < k → A.getD j noS = B.getD j noS) ∧ Kp w wr) (fun i _ => A.length - (intOf i).toNat)
  case atStart => exact ⟨0, Nat.zero_le _, rfl, fun j hj => absurd hj (by omega), Kp.refl w⟩
  case round =>
    obtain ⟨k, hk, rfl, hE, hK⟩ := hrel
    have HE : Hid (∀ j, j < k → A.getD j noS = B.getD j noS) := hE
    have HK : Hid (Kp w wr) := hK
    clear hE
    by_cases hlt : k < A.length
    · obtain rfl := x3 (by omega)
      obtain rfl := y3 (by omega)
      have q1 : ∀ p, (kpw wr p).cell? ⟨b1, o1 + k, none⟩ = some (.string (A.getD k noS)) := fun p => kpw_cell (hK.held (H1.out k hlt)) p
      have q2 : ∀ p, (kpw wr p).cell? ⟨b2, o2 + k, none⟩ = some (.string (B.getD k noS)) := fun p => kpw_cell (hK.held (H2.out k hlt)) p
      obtain ⟨s, hs⟩ : ∃ s, s = A.getD k noS := ⟨_, rfl⟩
      obtain ⟨t, ht⟩ : ∃ t, t = B.getD k noS := ⟨_, rfl⟩
      have HS : Hid (s = A.getD k noS) := hs
      have HT : Hid (t = B.getD k noS) := ht
      rw [← hs] at q1
      rw [← ht] at q2
      clear hs ht hK x3 y3
      by_cases hst : s = t
      · subst hst
        have hee : (s.toList == s.toList) = true := by simp
        go_wp2_with fail
        refine wp_region_kp (by kernel_rfl) (by kernel_rfl) ?_
        repeat (first
          | go_big_quiet_skip
          | (go_big_quiet_want; go_big_quiet_op; go_big_quiet_on))
        refine wpQuiet_nil ?_
        rintro w' ⟨p, rfl⟩
        go_wp2
        go_roundw
        case rel =>
          refine ⟨k + 1, by omega, by go_num, fun j hj => ?_, HK.out.trans (kpw_kp _ p)⟩
          by_cases e : j = k
          · rw [e, ← HS.out, ← HT.out]
          · exact HE.out j (by omega)
        case measure => simp [intOf] <;> omega
      · have hee : (s.toList == t.toList) = false := text_ne hst
        have HF : Hid (R = false) := by
          show R = false
          rw [HR.out, decide_eq_false_iff_not]
          intro e
          exact hst (by rw [HS.out, HT.out, e])
        clear hst
        go_wp2_with fail
        refine wp_region_kp (by kernel_rfl) (by kernel_rfl) ?_
        repeat (first
          | go_big_quiet_skip
          | (go_big_quiet_want; go_big_quiet_op; go_big_quiet_on))
        refine wpQuiet_nil ?_
        rintro w' ⟨p, rfl⟩
        go_wp2
        go_ret
        exact ⟨by rw [HF.out]; rfl, HK.out.trans (kpw_kp _ p)⟩
    · obtain rfl : k = A.length := by omega
      have HF : Hid (R = true) := by
        show R = true
        rw [HR.out, decide_eq_true_iff]
        exact list_eq HL.out HE.out
      go_wp2
      go_ret
      exact ⟨by rw [HF.out]; rfl, HK.out⟩


/-! ### a row that fits is brought back -/
theorem kept_same {A L : List ByteArray} {g : List Nat} (hl : L.length = A.length) (h : ∀ i, i < A.length → i ∉ g → L.getD i noS = A.getD i noS) : keptL L L.length g = keptL A A.length g := by
  unfold keptL
  rw [hl]
  apply List.map_congr_left
  intro i hi
  unfold keptI at hi
  rw [List.mem_filter, List.mem_range] at hi
  exact h i hi.1 (by simpa using hi.2)
theorem blk_same {n : Nat} {A L : List ByteArray} {g : List Nat} (hl : L.length = A.length) (h : ∀ i, i < A.length → i ∉ g → L.getD i noS = A.getD i noS) : blkL5 n L g = blkL5 n A g := by
  refine list_eq (by rw [blk_length, blk_length, hl]) fun i hi => ?_
  rw [blk_length] at hi
  rw [blk_at n g L i hi, blk_at n g A i (by omega)]
  by_cases hg : i ∈ g
  · rw [if_pos hg, if_pos hg]
  · rw [if_neg hg, if_neg hg]; exact h i (by omega) hg
theorem fx_row {n k : Nat} {A L : List ByteArray} (hF : Fits n k A) (hk1 : 2 ≤ k) (hk2 : k ≤ 30) (hn : n ≤ 65536) (hl : L.length = A.length) (lost : List Int) (hin : ∀ x, x ∈ lost → 0 ≤ x ∧ x < (k : Int) + 2) (hg : (gn (k + 2) lost).length ≤ 2)
    (h : ∀ i, i < A.length → i ∉ gn (k + 2) lost → L.getD i noS = A.getD i noS) : fxE L lost = 0 ∧ fxL L lost = A ∧ ∀ cnt, fxC cnt L lost = upL5 cnt (kdN k (gn (k + 2) lost)) := by
  have hA := hF.len
  have hLk : L.length = k + 2 := by omega
  have hdk : (L.length : Int) - 2 = (k : Int) := by omega
  have hall : ∀ x, x ∈ lost → 0 ≤ x ∧ x < ((k + 2 : Nat) : Int) := fun x hx => by have := hin x hx; omega
  have hdl : (dst lost).length = (gn (k + 2) lost).length := by rw [dst_gn (k + 2) lost hall, List.length_map]
  have hib : inB (k : Int) lost = true := by
    unfold inB
    exact List.all_eq_true.2 fun x hx => decide_eq_true (hin x hx)
  have hsr : srE (k : Int) lost = 0 := (sr_ok (by omega) (by omega) hib (by omega)).1
  have hgg : gnL L lost = gn (k + 2) lost := by unfold gnL; rw [hLk]
  have hks := kept_same hl h
  have hfit : fitE (keptL A A.length (gn (k + 2) lost)) = 0 := by
    have hsz : ∀ s, s ∈ keptL A A.length (gn (k + 2) lost) → s.size = n := fun s hs => by
      obtain ⟨i, hi, _, rfl⟩ := keptL_mem hs
      exact hF.sz.at i hi
    exact fit_ok (fun i hi => by rw [hsz _ (mem_of_at _ i hi)]; exact hn) (fun i hi => by rw [hsz _ (mem_of_at _ i hi), hsz _ (mem_of_at _ 0 (by omega))])
  have hln : lnS L (gn (k + 2) lost) = n := by
    unfold lnS
    rw [hks]
    obtain ⟨i, hi, _, e⟩ := keptL_mem (mem_of_at (keptL A A.length (gn (k + 2) lost)) 0 (keptL_pos hg (by omega)))
    rw [e]; exact hF.sz.at i hi
  have he : fxE L lost = 0 := by
    rw [fx_un (by rw [hdk]; exact hsr), hgg, hks]; exact hfit
  refine ⟨he, ?_, fun cnt => by unfold fxC; rw [if_pos he, hgg, hLk]; rfl⟩
  unfold fxL
  rw [if_pos he, hgg, hln, blk_same hl h, hLk]
  show fixZ n k (blkL5 n A (gn (k + 2) lost)) (gn (k + 2) lost) = A
  have hrise := gn_lt (k + 2) lost
  have hx : ∀ x, x ∈ gn (k + 2) lost → x < k + 2 := fun x hx => ((gn_mem _ _ x).1 hx).1
  generalize gn (k + 2) lost = g at hg hrise hx
  match g, hg, hrise, hx with
  | [], _, _, _ => rfl
  | [i], _, _, hx => exact fix_one hF (hx i (by simp))
  | [i, j], _, hr, hx => exact fix_two hF hk2 (by simpa using hr) (hx j (by simp))
  | _ :: _ :: _ :: _, hg, _, _ => exact absurd hg (by simp)

end Go.Proofs.YtonooelffokfkaaGreatDoor

namespace Go.Proofs.YtonooelffokfkaaGreatDoor
open Go.RowKit Plain
set_option linter.unusedVariables false

theorem StrsIn.cut {w : World} {a : Option Addr} {len cap : Nat} {l : List ByteArray} (h : StrsIn w (.slice a len cap) l) (n : Nat) : len = l.length ∧ len ≤ cap ∧ cap ≤ maxLen ∧ (n < len → StrsIn w (.slice a n cap) (l.take n)) := by
  cases h with
  | empty a cap h => exact ⟨rfl, by omega, h, fun hn => absurd hn (by omega)⟩
  | some b off cap l h0 h1 h2 hc =>
    refine ⟨rfl, h1, h2, fun hn => ?_⟩
    by_cases hn0 : n = 0
    · subst hn0; exact .empty _ _ h2
    · have hl : (l.take n).length = n := by rw [List.length_take]; omega
      have H := StrsIn.some (w := w) b off cap (l.take n) (by omega) (by omega) h2 (fun i hi => by
        rw [hc i (by omega), getD_take (by omega)])
      rwa [hl] at H


end Go.Proofs.YtonooelffokfkaaGreatDoor
