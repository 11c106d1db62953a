/-
  Contracts of slices.Backward over a list of texts, and of syndrome's weighted, which ranges over it. Conditions: that the list's cells hold texts of one length.
-/
import Derived.Test.YtbcmgogfpboibaaGreatDoorSynPlain
import Derived.RangeFuncNested
import Derived.RangeFuncBound
import Derived.RangeFuncCalls
import Derived.RangeFuncLeaves
import Derived.RangeFuncBox
import Derived.Shelf.Abstract
import Derived.Shelf.RegionOpen
import Derived.WalkKit
import Derived.OwnWalkIn
import Derived.TacticsInMore
import Derived.LoopNIn
import Derived.LoopIn
namespace Go.Proofs.YtbcmgogfpboibaaGreatDoor
open Go.RowKit Go.Shelf Plain

attribute [local go_sem] Oper.semAt_some

def fixS (n : Nat) (s : ByteArray) : ByteArray := if s.size = n then s else zs n
theorem fixS_ok {n : Nat} {s : ByteArray} (h : s.size = n) : fixS n s = s := by unfold fixS; rw [if_pos h]
theorem fixS_size (n : Nat) (s : ByteArray) : (fixS n s).size = n := by
  unfold fixS
  split
  · assumption
  · exact zs_size n
def bwd (l : List ByteArray) (k : Nat) : List (Nat × ByteArray) := (List.range k).map fun j => (l.length - 1 - j, l.getD (l.length - 1 - j) noS)
theorem bwd_succ (l : List ByteArray) (k : Nat) : bwd l (k + 1) = bwd l k ++ [(l.length - 1 - k, l.getD (l.length - 1 - k) noS)] := by simp [bwd, List.range_succ]
theorem bwd_length (l : List ByteArray) (k : Nat) : (bwd l k).length = k := by simp [bwd]
def encB (n : Nat) (x : Nat × ByteArray) : Array Value := #[.int .i64 (x.1 : Int), .string (fixS n x.2)]

/-- two blocks lie as they lay. -/
structure Two (b B : Nat) (W W' : World) : Prop where
  one : W'.heap[b]? = W.heap[b]?
  two : W'.heap[B]? = W.heap[B]?
theorem Two.refl (b B : Nat) (W : World) : Two b B W W := ⟨rfl, rfl⟩
theorem Two.trans {b B : Nat} {X Y Z : World} (h : Two b B X Y) (k : Two b B Y Z) : Two b B X Z := ⟨k.one.trans h.one, k.two.trans h.two⟩
theorem cell_of {W W' : World} {b : Nat} (h : W'.heap[b]? = W.heap[b]?) (o : Nat) : W'.cell? ⟨b, o, none⟩ = W.cell? ⟨b, o, none⟩ := by simp [World.cell?, h]
theorem two_put {b B : Nat} {w : World} (hb : b < w.heap.size) (hB : B < w.heap.size) (W : World) (l : Nat) (o o' : Obj) (hl : w.heap.size ≤ l) (_h : W.heap[l]? = some o) (_ : o.isCells = false) (_ : o.isWalk = false) : Two b B W (W.putObj l o') :=
  ⟨World.putObj_heap_other (by omega), World.putObj_heap_other (by omega)⟩
theorem Kp.two {b B : Nat} {W W' : World} (h : Kp W W') (hb : b < W.heap.size) (hB : B < W.heap.size) : Two b B W W' := ⟨h.block b hb, h.block B hB⟩

set_option maxRecDepth 100000 in
set_option maxHeartbeats 2000000 in
theorem back1_in (F : Fence) (m : Nat) (hf : F.fn 76) (hro : F.round = none) (hm : 1 ≤ m) (ll Bs b off cap n : Nat) (l : List ByteArray) (h30 : l.length ≤ 30) (_h1 : l.length ≤ cap) (_h2 : cap ≤ maxLen) (he : ∀ i, i < l.length → (l.getD i noS).size = n) (J Jx : List (Nat × ByteArray) → World → Prop)
    (hY : ∀ pre x W, J pre W → pre.length < l.length → YieldAt F (m - 1) Tryz.prog ll (encB n x) W fun e W' =>
      (e = .returned (.bool true) ∧ J (pre ++ [x]) W' ∧ Two b Bs W W') ∨ (e = .returned (.bool false) ∧ Jx (pre ++ [x]) W'))
    (W : World) (hB : W.cell? ⟨Bs, 0, none⟩ = some (.slice (some ⟨b, off, none⟩) l.length cap)) (hc : ∀ j, j < l.length → W.cell? ⟨b, off + j, none⟩ = some (.string (l.getD j noS))) (h0 : J [] W) :
    CallsIn F m Tryz.prog 76 #[.func (.yield ll) #[] #[], .pointer (some ⟨Bs, 0, none⟩)] W fun e W' => (∃ v, e = .returned v) ∧
      ((∃ ys, ys = bwd l l.length ∧ J ys W') ∨ (∃ pre, (∃ k, k ≤ l.length ∧ pre = bwd l k) ∧ Jx pre W')) := by
  refine callsIn_of_wp Tryz.func76 rfl hf ?_ hro
  simp only [Tryz.ntmps76, List.size_toArray, List.length_cons, List.length_nil, Nat.reduceAdd, Nat.reduceSub, Array.replicate_succ, Array.replicate_zero, List.push_toArray, List.append_toArray, List.nil_append, List.cons_append]
  gi_wp2
  gi_loopw [3] (fun i wr => ∃ k : Nat, k ≤ l.length ∧ i = .int .i64 ((l.length : Int) - 1 - k) ∧ J (bwd l k) wr ∧ Two b Bs W wr) (fun i _ => (intOf i + 1).toNat)
  case atStart => exact ⟨0, Nat.zero_le _, by go_num, h0, Two.refl _ _ _⟩
  case round =>
    obtain ⟨k, hk, rfl, hJs, hnx⟩ := hrel
    have hBx : wr.cell? ⟨Bs, 0, none⟩ = some (.slice (some ⟨b, off, none⟩) l.length cap) := (cell_of hnx.two 0).trans hB
    by_cases hlt : k < l.length
    · obtain ⟨i, hi⟩ : ∃ i : Nat, i = l.length - 1 - k := ⟨_, rfl⟩
      have hil : i < l.length := by omega
      have hci : wr.cell? ⟨b, off + i, none⟩ = some (.string (l.getD i noS)) := (cell_of hnx.one _).trans (hc i hil)
      have hyy := hY _ (i, l.getD i noS) wr hJs (by rw [bwd_length]; exact hlt)
      rw [show bwd l k ++ [(i, l.getD i noS)] = bwd l (k + 1) by rw [bwd_succ, hi]] at hyy
      unfold encB at hyy
      dsimp only at hyy
      rw [fixS_ok (he i hil)] at hyy
      obtain ⟨s, hs⟩ : ∃ s, s = l.getD i noS := ⟨_, rfl⟩
      rw [← hs] at hyy hci
      clear hs hc he
      obtain ⟨fn, tmps, assign, body, hy, hR⟩ := hyy
      rw [show (l.length : Int) - 1 - k = (i : Int) by omega]
      have hi1 : i + k + 1 ≤ l.length := by omega
      have hi2 : l.length ≤ i + k + 1 := by omega
      clear hi
      gi_wp2
      refine hR.mono ?_
      rintro e W3 (⟨rfl, hJ3, hk3⟩ | ⟨rfl, hJx3⟩)
      · gi_wp2
        go_roundw
        case rel => exact ⟨k + 1, by omega, by go_num, hJ3, hnx.trans hk3⟩
        case measure => simp [intOf]
      · gi_wp2
        refine bodyPost_ret (results_none rfl _ _ _) rfl ?_
        exact ⟨⟨_, rfl⟩, .inr ⟨_, ⟨k + 1, by omega, rfl⟩, hJx3⟩⟩
    · obtain rfl : k = l.length := by omega
      gi_wp2
      go_end0
      exact ⟨⟨_, rfl⟩, .inl ⟨_, rfl, hJs⟩⟩

set_option maxHeartbeats 1000000 in
theorem backward_any (a : Option Addr) (len cap : Nat) (w : World) :
    Calls Tryz.prog 65 #[.slice a len cap] w fun e w' => e = .returned (.func (.func 76) #[] #[.pointer (some ⟨w.heap.size, 0, none⟩)]) ∧ w' = w.alloc (.cells #[.slice a len cap] 33) := by
  go_enter Tryz.func65, Tryz.ntmps65
  go_wp2
  go_ret
  exact ⟨rfl, rfl⟩

theorem back_stops (w : World) (F : Fence) (m : Nat) (hf : F.fn 76) (hro : F.round = none) (hm : 1 ≤ m) (Bs b off cap n : Nat) (l : List ByteArray) (h30 : l.length ≤ 30) (h1 : l.length ≤ cap) (h2 : cap ≤ maxLen) (he : ∀ i, i < l.length → (l.getD i noS).size = n) (hb : b < w.heap.size) (hBs : Bs < w.heap.size)
    (hB : w.cell? ⟨Bs, 0, none⟩ = some (.slice (some ⟨b, off, none⟩) l.length cap)) (hc : ∀ j, j < l.length → w.cell? ⟨b, off + j, none⟩ = some (.string (l.getD j noS))) :
    SeqStopsK F m Tryz.prog 76 #[.pointer (some ⟨Bs, 0, none⟩)] (encB n) (Two b Bs) (fun ys => ys = bwd l l.length) (fun pre => ∃ k, k ≤ l.length ∧ pre = bwd l k) l.length w := fun ll J Jx W hW _ _ hY h0 =>
  back1_in F m hf hro hm ll Bs b off cap n l h30 h1 h2 he J Jx hY W ((hW.cell (p := ⟨Bs, 0, none⟩) (by show Bs < _; omega)).trans hB) (fun j hj => (hW.cell (p := ⟨b, off + j, none⟩) (by show b < _; omega)).trans (hc j hj)) h0

/-- the sum so far. -/
def horn (n : Nat) (pre : List (Nat × ByteArray)) : ByteArray := pre.foldl (fun acc x => foldS (fixS n x.2) 2 acc) (zs n)
theorem horn_snoc (n : Nat) (pre : List (Nat × ByteArray)) (x : Nat × ByteArray) : horn n (pre ++ [x]) = foldS (fixS n x.2) 2 (horn n pre) := by simp [horn]
theorem horn_from (n : Nat) : ∀ (pre : List (Nat × ByteArray)) (acc : ByteArray), acc.size = n → (pre.foldl (fun acc x => foldS (fixS n x.2) 2 acc) acc).size = n
  | [], _, h => h
  | x :: r, acc, h => horn_from n r _ (by rw [foldS_size]; exact h)
theorem horn_size (n : Nat) (pre : List (Nat × ByteArray)) : (horn n pre).size = n := horn_from n pre _ (zs_size n)
theorem horn_drop (n : Nat) (l : List ByteArray) (he : ∀ i, i < l.length → (l.getD i noS).size = n) : ∀ k, k ≤ l.length → horn n (bwd l k) = wgtS n (l.drop (l.length - k))
  | 0, _ => by
    rw [Nat.sub_zero, List.drop_length]; rfl
  | k + 1, h => by
    have hi : l.length - 1 - k < l.length := by omega
    rw [bwd_succ, horn_snoc, fixS_ok (he _ hi), horn_drop n l he k (by omega), show l.length - (k + 1) = l.length - 1 - k by omega, List.drop_eq_getElem_cons hi, show l.length - 1 - k + 1 = l.length - k by omega, List.getD_eq_getElem?_getD, List.getElem?_eq_getElem hi]
    rfl
theorem horn_all (n : Nat) (l : List ByteArray) (he : ∀ i, i < l.length → (l.getD i noS).size = n) : horn n (bwd l l.length) = wgtS n l := by
  rw [horn_drop n l he _ (Nat.le_refl _), Nat.sub_self, List.drop_zero]
theorem Kp.others {w w' : World} (h : Kp w w') : KeepsOthers w w' := ⟨h.size, fun k _ hk _ => (h.block k (Array.getElem?_eq_some_iff.1 hk).1).trans hk⟩
theorem Kp.boxed {w w' : World} (h : Kp w w') {B : Nat} {t : TypeId} {v : Value} (hb : Boxed w B t v) : Boxed w' B t v := (h.block B hb.lt).trans hb

set_option maxRecDepth 100000 in
set_option maxHeartbeats 4000000 in
theorem weighted_any (b off cap n : Nat) (l : List ByteArray) (h0 : 0 < l.length) (h30 : l.length ≤ 30) (h1 : l.length ≤ cap) (h2 : cap ≤ maxLen) (hn : n ≤ 65536) (he : ∀ i, i < l.length → (l.getD i noS).size = n) (w : World) (hc : ∀ i, i < l.length → w.cell? ⟨b, off + i, none⟩ = some (.string (l.getD i noS))) :
    Calls Tryz.prog 50 #[.slice (some ⟨b, off, none⟩) l.length cap] w fun e w' => e = .returned (.string (wgtS n l)) ∧ Kp w w' := by
  obtain ⟨s0, hs0⟩ : ∃ s, s = l.getD 0 noS := ⟨_, rfl⟩
  have hc0 : w.cell? ⟨b, off, none⟩ = some (.string s0) := by rw [hs0]; exact hc 0 h0
  have hz0 : s0.size = n := by rw [hs0]; exact he 0 h0
  have hbw : b < w.heap.size := World.block_lt_of_cell? w _ hc0
  clear hs0
  have hN := noughts_any (n : Int) (by omega) (by omega) w
  rw [show noughtN (n : Int) = n by unfold noughtN; omega] at hN
  refine (callsIn_wide (n := 3)).1 ?_
  refine callsIn_of_wp_marks Tryz.func50 rfl trivial ?_ rfl
  simp only [Tryz.ntmps50, List.size_toArray, List.length_cons, List.length_nil, Nat.reduceAdd, Nat.reduceSub, Array.replicate_succ, Array.replicate_zero, List.push_toArray, List.append_toArray, List.nil_append, List.cons_append]
  gi_wp2_with (refine ⟨trivial, ?_⟩; gi_at_call 39; refine (callsIn_wide.2 hN).mono ?_; rintro e w1 ⟨rfl, k1⟩)
  gi_wp2_with (refine ⟨trivial, ?_⟩; gi_at_call 65; refine (callsIn_wide.2 (backward_any _ _ _ _)).mono ?_; rintro e w2 ⟨rfl, rfl⟩)
  clear hN
  obtain ⟨W0, hW0⟩ : ∃ W0, W0 = (w1.alloc (.cells #[.string (zs n)] 9)).alloc (.cells #[.slice (some ⟨b, off, none⟩) l.length cap] 33) := ⟨_, rfl⟩
  have bS : Boxed W0 w1.heap.size 9 (.string (zs n)) := by rw [hW0]; exact (Boxed.new w1 9 _).alloc _
  have bN : Boxed W0 (w1.heap.size + 1) 33 (.slice (some ⟨b, off, none⟩) l.length cap) := by
    rw [hW0]; have := Boxed.new (w1.alloc (.cells #[.string (zs n)] 9)) 33 (.slice (some ⟨b, off, none⟩) l.length cap); rwa [World.size_alloc] at this
  have K0 : Kp w W0 := by rw [hW0]; exact (k1.alloc _).alloc _
  have hsz : W0.heap.size = w1.heap.size + 2 := by rw [hW0]; simp
  have hzw := k1.size
  rw [← hW0]
  clear hW0
  have hc0' := fun i hi => K0.held (hc i hi)
  refine wpIn_rangeFunc_ownF rfl (by omega) (gf := 76) (lb := #[.pointer (some ⟨w1.heap.size + 1, 0, none⟩)]) rfl trivial (enters_of Tryz.func76 (by kernel_rfl) rfl)
    (back_stops W0 Fence.wide 2 trivial rfl (by omega) (w1.heap.size + 1) b off cap n l h30 h1 h2 he (by omega) (by omega) bN.cell hc0') Two.trans (two_put (by omega) (by omega)) (Below.refl _ _) (fun _ => rfl)
    (fun pre W => Boxed W w1.heap.size 9 (.string (horn n pre)) ∧ Kp w W ∧ W0.heap.size ≤ W.heap.size)
    (fun _ _ _ => False)
    (OwnFrom.and (Own.from (boxed_own _ _ _) _) (OwnFrom.and (ownFrom_below (Nat.le_refl _) (by omega)) (fun _ _ _ _ hs hg _ => Nat.le_trans hs hg.size)))
    (fun _ _ _ _ _ hs _ _ => hs)
    ⟨bS, K0, Nat.le_refl _⟩
    (fun x => { tmps := #[.slice (some ⟨b, off, none⟩) l.length cap, undef, .string ⟨#[]⟩, .pointer (some ⟨w1.heap.size, 0, none⟩), undef, .string (fixS n x.2), .slice (some ⟨b, off, none⟩) l.length cap, .pointer (some ⟨b, off, none⟩), .string s0, .int .i64 n, .string (zs n), .slice (some ⟨b, off, none⟩) l.length cap, .func (.func 76) #[] #[.pointer (some ⟨w1.heap.size + 1, 0, none⟩)], .int .i64 (x.1 : Int), .string (fixS n x.2), undef, undef, undef, undef, undef, undef, undef], defers := [] }) ?assign ?body ?done ?stop
  case assign =>
    intro l x W K hK
    unfold encB
    gi_wp2
    exact hK
  case body =>
    rintro ll pre x W ⟨hbx, hB, hz⟩ _
    have hbc := hbx.cell
    have hd := double2 (horn n pre) (fixS n x.2) (by rw [horn_size]; exact hn) (by rw [fixS_size, horn_size]) W
    rw [← horn_snoc n pre x] at hd
    gi_wp2_with (refine ⟨trivial, ?_⟩; gi_at_call 66; refine (CallsIn.inRound ll (callsIn_wide.2 hd)).mono ?_; rintro e w3 ⟨rfl, k3⟩; have hb3 := k3.boxed hbx; have hbc3 := hb3.cell; have hbf3 := hb3.frozen)
    have hz3 := k3.size
    have hg := grownBy_setCell' w3 w1.heap.size (Value.string (horn n (pre ++ [x])))
    exact ⟨k3.others.trans (KeepsOthers.setCell _ _ _), (k3.two (by omega) (by omega)).trans ⟨hg.block b (by omega) (by simp; omega), hg.block _ (by omega) (by simp)⟩, hb3.set _, (hB.trans k3).setCell (p := ⟨w1.heap.size, 0, none⟩) (by show _ ≤ w1.heap.size; omega) _, by rw [← show w3.heap.size = _ from (World.size_setCell _ _ _).symm]; omega⟩
  case done =>
    rintro D ys W hD rfl ⟨hbx, hB, hz⟩ hK
    have hbc := hbx.cell
    gi_wp2
    refine ⟨by simp, .inl ⟨_, _, rfl, run_takeDeferred hK, ?_⟩⟩
    rw [← horn_all n l he]
    exact ⟨_, results_tmp rfl _ _ _, rfl, Below.trans hB (belowK_b (w := w) (Nat.le_refl _) W D _ _ (by omega) hK rfl rfl)⟩
  case stop =>
    rintro D c pre W _ _ h _
    exact h.elim

end Go.Proofs.YtbcmgogfpboibaaGreatDoor
