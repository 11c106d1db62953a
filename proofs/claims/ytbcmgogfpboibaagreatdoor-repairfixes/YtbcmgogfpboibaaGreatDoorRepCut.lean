/-
  Contract of the laws' function cut (layer 5): texts of at most so many bytes, at most 36, all as long as the first one if that is asked. Conditions: that the list's cells hold the texts.
-/
import Derived.Test.YtbcmgogfpboibaaGreatDoorRepFix
import Derived.WalkKit
import Derived.Deep.OwnRows
import Derived.RegionTactic
import Derived.BigRegion
namespace Go.Proofs.YtbcmgogfpboibaaGreatDoor
set_option linter.unusedVariables false
open Go.RowKit Plain Go.BigFrame

def cutO (n : Nat) (s : ByteArray) : ByteArray := s.extract 0 (min s.size n)
def cutE (n : Nat) (ev : Bool) (l : List ByteArray) (i : Nat) : ByteArray := if ev = true ∧ 0 < i then (cutO n (l.getD i noS) ++ zs n).extract 0 (cutO n (l.getD 0 noS)).size else cutO n (l.getD i noS)
def cutL (n : Nat) (ev : Bool) (l : List ByteArray) (k : Nat) : List ByteArray := (List.range k).map (cutE n ev l)
variable {n : Nat}
theorem cutO_size (s : ByteArray) : (cutO n s).size = min s.size n := by unfold cutO; rw [extract_size _ _ _ (by omega)]; omega
theorem cutO_le (s : ByteArray) : (cutO n s).size ≤ n := by rw [cutO_size]; omega
theorem cutO_short (s : ByteArray) (h : s.size ≤ n) : cutO n s = s := by unfold cutO; rw [Nat.min_eq_left h]; exact ByteArray.extract_zero_size
theorem cutO_long (s : ByteArray) (h : n < s.size) : cutO n s = s.extract 0 n := by unfold cutO; rw [Nat.min_eq_right (by omega)]
theorem cutE_zero (ev : Bool) (l : List ByteArray) : cutE n ev l 0 = cutO n (l.getD 0 noS) := by unfold cutE; rw [if_neg (by omega)]
theorem cutE_not (l : List ByteArray) (i : Nat) : cutE n false l i = cutO n (l.getD i noS) := by unfold cutE; rw [if_neg (by simp)]
theorem cutE_even (l : List ByteArray) (i : Nat) (h : 0 < i) : cutE n true l i = (cutO n (l.getD i noS) ++ zs n).extract 0 (cutO n (l.getD 0 noS)).size := by unfold cutE; rw [if_pos ⟨rfl, h⟩]
theorem cutE_size (l : List ByteArray) (i : Nat) : (cutE n true l i).size = (cutO n (l.getD 0 noS)).size := by
  by_cases h : 0 < i
  · have := cutO_le (n := n) (l.getD 0 noS)
    rw [cutE_even l i h, extract_size _ _ _ (by rw [ByteArray.size_append, zs_size]; omega)]; omega
  · obtain rfl : i = 0 := by omega
    rw [cutE_zero]
theorem cutE_le (ev : Bool) (l : List ByteArray) (i : Nat) : (cutE n ev l i).size ≤ n := by
  cases ev with
  | true => rw [cutE_size]; exact cutO_le _
  | false => rw [cutE_not]; exact cutO_le _
theorem cutL_at (ev : Bool) (l : List ByteArray) (k i : Nat) (h : i < k) : (cutL n ev l k).getD i noS = cutE n ev l i := by
  unfold cutL; simp [List.getD_eq_getElem?_getD, h]
theorem cutL_length (ev : Bool) (l : List ByteArray) (k : Nat) : (cutL n ev l k).length = k := by unfold cutL; simp
theorem cutL_snoc (ev : Bool) (l : List ByteArray) (k : Nat) : (cutL n ev l k).map Value.string ++ [.string (cutE n ev l k)] = (cutL n ev l (k + 1)).map Value.string := by
  unfold cutL; rw [List.range_succ]; simp
theorem info_str : (Tryz.prog.info? 9).map (fun i => (i.zero, i.size, i.bytes)) = some (some (.string ByteArray.empty), 1, 16) := by kernel_rfl

theorem convN (hn : n ≤ 64) (W : World) : (convert 59 9 (.slice (some ⟨W.heap.size, 0, none⟩) n n)).run Tryz.prog ((W.alloc (.cells (madeCells #[.int .u8 0] n) 5)).drew) = .ok (.string (zs n)) ((W.alloc (.cells (madeCells #[.int .u8 0] n) 5)).drew) := by
  have h : ((W.alloc (.cells (madeCells #[.int .u8 0] n) 5)).drew).ownsRow W.heap.size 5 1 (.slice (some ⟨W.heap.size, 0, none⟩) n n) n (madeCells (Value.int .u8 0).cells (n * 1)).toList :=
    by rw [Nat.mul_one]; exact (World.ownsRow_lit W (madeCells #[.int .u8 0] n) n (Nat.le_refl _) (by unfold maxLen; omega) (size := 1) (by rw [size_madeCells, Nat.mul_one])).drew
  exact made_text (P := Tryz.prog) 59 9 Tryz.underlying59 Tryz.underlying5 Tryz.underlying9 h
set_option maxRecDepth 100000 in
set_option maxHeartbeats 8000000 in
theorem cut_plain36 (hn : n ≤ 64) (b off cap : Nat) (l : List ByteArray) (h1 : l.length ≤ cap) (h2 : cap ≤ maxLen) (h36 : 36 < l.length) (hs : ∀ i, i < l.length → (l.getD i noS).size ≤ maxLen) (w : World) (hc : ∀ i, i < l.length → w.cell? ⟨b, off + i, none⟩ = some (.string (l.getD i noS))) :
    Calls Tryz.prog 14 #[.slice (some ⟨b, off, none⟩) l.length cap, .int .i64 (n : Int), .bool false] w fun e w' => ∃ v, e = .returned v ∧ w'.ownsRow w.heap.size 9 1 v (36) ((cutL n false l (36)).map Value.string) ∧ Kp w w' := by
  obtain ⟨i0, hi, hz0, hz1, hz2⟩ := info_parts info_str
  unfold maxLen at h2 hs
  have hmo : min (l.length : Int) 36 = 36 := by omega
  go_enter Tryz.func14, Tryz.ntmps14
  go_wp2
  go_loopw [7, 16] (fun v i wr => ∃ k : Nat, k ≤ 36 ∧ i = .int .i64 k ∧ wr.ownsRow w.heap.size 9 1 v k ((cutL n false l k).map Value.string) ∧ Kp w wr) (fun _ i _ => 36 - (intOf i).toNat)
  case atStart => exact ⟨0, by omega, rfl, World.ownsRow_nil _ _ _ _, Kp.refl w⟩
  case round =>
    obtain ⟨k, hk, rfl, hown, hK⟩ := hrel
    by_cases hlt : k < 36
    · have hkl : k < l.length := by omega
      have hck := hK.held (hc k hkl)
      have hsk := hs k hkl
      have hz := hK.size
      obtain ⟨s, hse⟩ : ∃ s, s = l.getD k noS := ⟨_, rfl⟩
      rw [← hse] at hck hsk
      have HS : Hid (s = l.getD k noS) := hse
      clear hse hc hs
      by_cases hsh : s.size ≤ n
      · have hmn : min (s.size : Int) (n : Int) = s.size := by omega
        have HC : Hid (s = cutE n false l k) := by show s = _; rw [cutE_not, ← HS.out, cutO_short s hsh]
        go_wp2_with (at_builtin; refine wpList_append_own _ rfl _ _ 33 rfl w.heap.size 9 i0 (.string ByteArray.empty) 1 16 Tryz.underlying33 hi hz0 hz1 hz2 rfl (by decide) _ _ _ rfl (hown.alloc _) ⟨wr.heap.size, 0, none⟩ 1 1 [.string (s)] rfl rfl ?c1 ?c2 ?c3 ?c4 ?c5 ?_)
        case c1 =>
          intro j u hj
          match j, hj with
          | 0, hj => simp at hj; subst hj; simp [Addr.add]
        case c2 => intro u hu; simp at hu; subst hu; rfl
        case c3 => unfold maxLen; omega
        case c4 => omega
        case c5 => simp; omega
        · intro v' w3 hown3 hgrow3 _
          have hK3 : Kp w w3 := (hK.alloc _).grown hgrow3 (own_lt hown)
          rw [HC.out, cutL_snoc] at hown3
          clear hgrow3 hown hK
          go_wp2
          go_roundw
          case rel => exact ⟨k + 1, by omega, by go_num, hown3, hK3⟩
          case measure => simp [intOf] <;> omega
      · have hmn : min (s.size : Int) (n : Int) = n := by omega
        have HC : Hid (s.extract 0 n = cutE n false l k) := by show s.extract 0 n = _; rw [cutE_not, ← HS.out, cutO_long s (by omega)]
        go_wp2_with (at_builtin; refine wpList_append_own _ rfl _ _ 33 rfl w.heap.size 9 i0 (.string ByteArray.empty) 1 16 Tryz.underlying33 hi hz0 hz1 hz2 rfl (by decide) _ _ _ rfl (hown.alloc _) ⟨wr.heap.size, 0, none⟩ 1 1 [.string (s.extract 0 n)] rfl rfl ?c1 ?c2 ?c3 ?c4 ?c5 ?_)
        case c1 =>
          intro j u hj
          match j, hj with
          | 0, hj => simp at hj; subst hj; simp [Addr.add]
        case c2 => intro u hu; simp at hu; subst hu; rfl
        case c3 => unfold maxLen; omega
        case c4 => omega
        case c5 => simp; omega
        · intro v' w3 hown3 hgrow3 _
          have hK3 : Kp w w3 := (hK.alloc _).grown hgrow3 (own_lt hown)
          rw [HC.out, cutL_snoc] at hown3
          clear hgrow3 hown hK
          go_wp2
          go_roundw
          case rel => exact ⟨k + 1, by omega, by go_num, hown3, hK3⟩
          case measure => simp [intOf] <;> omega
    · obtain rfl : k = 36 := by omega
      clear hc hs
      go_wp2
      go_ret
      exact ⟨_, rfl, hown, hK⟩
set_option maxRecDepth 100000 in
set_option maxHeartbeats 8000000 in
theorem cut_plain (hn : n ≤ 64) (b off cap : Nat) (l : List ByteArray) (_h0 : 0 < l.length) (h1 : l.length ≤ cap) (h2 : cap ≤ maxLen) (h36 : l.length ≤ 36) (hs : ∀ i, i < l.length → (l.getD i noS).size ≤ maxLen) (w : World) (hc : ∀ i, i < l.length → w.cell? ⟨b, off + i, none⟩ = some (.string (l.getD i noS))) :
    Calls Tryz.prog 14 #[.slice (some ⟨b, off, none⟩) l.length cap, .int .i64 (n : Int), .bool false] w fun e w' => ∃ v, e = .returned v ∧ w'.ownsRow w.heap.size 9 1 v (l.length) ((cutL n false l (l.length)).map Value.string) ∧ Kp w w' := by
  obtain ⟨i0, hi, hz0, hz1, hz2⟩ := info_parts info_str
  unfold maxLen at h2 hs
  have hmo : min (l.length : Int) 36 = l.length := by omega
  go_enter Tryz.func14, Tryz.ntmps14
  go_wp2
  go_loopw [7, 16] (fun v i wr => ∃ k : Nat, k ≤ l.length ∧ i = .int .i64 k ∧ wr.ownsRow w.heap.size 9 1 v k ((cutL n false l k).map Value.string) ∧ Kp w wr) (fun _ i _ => l.length - (intOf i).toNat)
  case atStart => exact ⟨0, by omega, rfl, World.ownsRow_nil _ _ _ _, Kp.refl w⟩
  case round =>
    obtain ⟨k, hk, rfl, hown, hK⟩ := hrel
    by_cases hlt : k < l.length
    · have hkl : k < l.length := by omega
      have hck := hK.held (hc k hkl)
      have hsk := hs k hkl
      have hz := hK.size
      obtain ⟨s, hse⟩ : ∃ s, s = l.getD k noS := ⟨_, rfl⟩
      rw [← hse] at hck hsk
      have HS : Hid (s = l.getD k noS) := hse
      clear hse hc hs
      by_cases hsh : s.size ≤ n
      · have hmn : min (s.size : Int) (n : Int) = s.size := by omega
        have HC : Hid (s = cutE n false l k) := by show s = _; rw [cutE_not, ← HS.out, cutO_short s hsh]
        go_wp2_with (at_builtin; refine wpList_append_own _ rfl _ _ 33 rfl w.heap.size 9 i0 (.string ByteArray.empty) 1 16 Tryz.underlying33 hi hz0 hz1 hz2 rfl (by decide) _ _ _ rfl (hown.alloc _) ⟨wr.heap.size, 0, none⟩ 1 1 [.string (s)] rfl rfl ?c1 ?c2 ?c3 ?c4 ?c5 ?_)
        case c1 =>
          intro j u hj
          match j, hj with
          | 0, hj => simp at hj; subst hj; simp [Addr.add]
        case c2 => intro u hu; simp at hu; subst hu; rfl
        case c3 => unfold maxLen; omega
        case c4 => omega
        case c5 => simp; omega
        · intro v' w3 hown3 hgrow3 _
          have hK3 : Kp w w3 := (hK.alloc _).grown hgrow3 (own_lt hown)
          rw [HC.out, cutL_snoc] at hown3
          clear hgrow3 hown hK
          go_wp2
          go_roundw
          case rel => exact ⟨k + 1, by omega, by go_num, hown3, hK3⟩
          case measure => simp [intOf] <;> omega
      · have hmn : min (s.size : Int) (n : Int) = n := by omega
        have HC : Hid (s.extract 0 n = cutE n false l k) := by show s.extract 0 n = _; rw [cutE_not, ← HS.out, cutO_long s (by omega)]
        go_wp2_with (at_builtin; refine wpList_append_own _ rfl _ _ 33 rfl w.heap.size 9 i0 (.string ByteArray.empty) 1 16 Tryz.underlying33 hi hz0 hz1 hz2 rfl (by decide) _ _ _ rfl (hown.alloc _) ⟨wr.heap.size, 0, none⟩ 1 1 [.string (s.extract 0 n)] rfl rfl ?c1 ?c2 ?c3 ?c4 ?c5 ?_)
        case c1 =>
          intro j u hj
          match j, hj with
          | 0, hj => simp at hj; subst hj; simp [Addr.add]
        case c2 => intro u hu; simp at hu; subst hu; rfl
        case c3 => unfold maxLen; omega
        case c4 => omega
        case c5 => simp; omega
        · intro v' w3 hown3 hgrow3 _
          have hK3 : Kp w w3 := (hK.alloc _).grown hgrow3 (own_lt hown)
          rw [HC.out, cutL_snoc] at hown3
          clear hgrow3 hown hK
          go_wp2
          go_roundw
          case rel => exact ⟨k + 1, by omega, by go_num, hown3, hK3⟩
          case measure => simp [intOf] <;> omega
    · obtain rfl : k = l.length := by omega
      clear hc hs
      go_wp2
      go_ret
      exact ⟨_, rfl, hown, hK⟩
set_option maxRecDepth 100000 in
set_option maxHeartbeats 8000000 in
theorem cut_even36 (hn : n ≤ 64) (b off cap : Nat) (l : List ByteArray) (h1 : l.length ≤ cap) (h2 : cap ≤ maxLen) (h36 : 36 < l.length) (hs : ∀ i, i < l.length → (l.getD i noS).size ≤ maxLen) (w : World) (hc : ∀ i, i < l.length → w.cell? ⟨b, off + i, none⟩ = some (.string (l.getD i noS))) :
    Calls Tryz.prog 14 #[.slice (some ⟨b, off, none⟩) l.length cap, .int .i64 (n : Int), .bool true] w fun e w' => ∃ v, e = .returned v ∧ w'.ownsRow w.heap.size 9 1 v (36) ((cutL n true l (36)).map Value.string) ∧ Kp w w' := by
  obtain ⟨i0, hi, hz0, hz1, hz2⟩ := info_parts info_str
  unfold maxLen at h2 hs
  have hmo : min (l.length : Int) 36 = 36 := by omega
  go_enter Tryz.func14, Tryz.ntmps14
  go_wp2
  go_loopw [7, 16] (fun v i wr => ∃ k : Nat, k ≤ 36 ∧ i = .int .i64 k ∧ wr.ownsRow w.heap.size 9 1 v k ((cutL n true l k).map Value.string) ∧ Kp w wr) (fun _ i _ => 36 - (intOf i).toNat)
  case atStart => exact ⟨0, by omega, rfl, World.ownsRow_nil _ _ _ _, Kp.refl w⟩
  case round =>
    obtain ⟨k, hk, rfl, hown, hK⟩ := hrel
    by_cases hlt : k < 36
    · have hkl : k < l.length := by omega
      have hck := hK.held (hc k hkl)
      have hsk := hs k hkl
      have hz := hK.size
      obtain ⟨s, hse⟩ : ∃ s, s = l.getD k noS := ⟨_, rfl⟩
      rw [← hse] at hck hsk
      have HS : Hid (s = l.getD k noS) := hse
      clear hse hc hs
      by_cases hk0 : k = 0
      · subst hk0
        simp only [Nat.add_zero] at hck
        by_cases hsh : s.size ≤ n
        · have hmn : min (s.size : Int) (n : Int) = s.size := by omega
          have HC : Hid (s = cutE n true l 0) := by show s = _; rw [cutE_zero, ← HS.out, cutO_short s hsh]
          go_wp2_with (at_builtin; refine wpList_append_own _ rfl _ _ 33 rfl w.heap.size 9 i0 (.string ByteArray.empty) 1 16 Tryz.underlying33 hi hz0 hz1 hz2 rfl (by decide) _ _ _ rfl (hown.alloc _) ⟨wr.heap.size, 0, none⟩ 1 1 [.string (s)] rfl rfl ?c1 ?c2 ?c3 ?c4 ?c5 ?_)
          case c1 =>
            intro j u hj
            match j, hj with
            | 0, hj => simp at hj; subst hj; simp [Addr.add]
          case c2 => intro u hu; simp at hu; subst hu; rfl
          case c3 => unfold maxLen; omega
          case c4 => omega
          case c5 => simp; omega
          · intro v' w3 hown3 hgrow3 _
            have hK3 : Kp w w3 := (hK.alloc _).grown hgrow3 (own_lt hown)
            rw [HC.out, cutL_snoc] at hown3
            clear hgrow3 hown hK
            go_wp2
            go_roundw
            case rel => exact ⟨1, by omega, by go_num, hown3, hK3⟩
            case measure => simp [intOf] <;> omega
        · have hmn : min (s.size : Int) (n : Int) = n := by omega
          have HC : Hid (s.extract 0 n = cutE n true l 0) := by show s.extract 0 n = _; rw [cutE_zero, ← HS.out, cutO_long s (by omega)]
          go_wp2_with (at_builtin; refine wpList_append_own _ rfl _ _ 33 rfl w.heap.size 9 i0 (.string ByteArray.empty) 1 16 Tryz.underlying33 hi hz0 hz1 hz2 rfl (by decide) _ _ _ rfl (hown.alloc _) ⟨wr.heap.size, 0, none⟩ 1 1 [.string (s.extract 0 n)] rfl rfl ?c1 ?c2 ?c3 ?c4 ?c5 ?_)
          case c1 =>
            intro j u hj
            match j, hj with
            | 0, hj => simp at hj; subst hj; simp [Addr.add]
          case c2 => intro u hu; simp at hu; subst hu; rfl
          case c3 => unfold maxLen; omega
          case c4 => omega
          case c5 => simp; omega
          · intro v' w3 hown3 hgrow3 _
            have hK3 : Kp w w3 := (hK.alloc _).grown hgrow3 (own_lt hown)
            rw [HC.out, cutL_snoc] at hown3
            clear hgrow3 hown hK
            go_wp2
            go_roundw
            case rel => exact ⟨1, by omega, by go_num, hown3, hK3⟩
            case measure => simp [intOf] <;> omega
      · have hk1 : (0 : Int) < (k : Int) := by omega
        rcases hown.2 with ⟨rfl, h00⟩ | ⟨g, cp, cur, rfl, hbg, hgg, hnc, hcm, hcs, htake⟩
        · exact absurd h00 hk0
        · have hc0 := hown.cellAt 0 (by omega)
          obtain ⟨z, hze⟩ : ∃ z, z = cutO n (l.getD 0 noS) := ⟨_, rfl⟩
          have hzs : z.size ≤ n := by rw [hze]; exact cutO_le _
          have e0 : ((cutL n true l k).map Value.string)[0]? = some (.string z) := by
            have := cutL_at (n := n) true l k 0 (by omega)
            rw [cutE_zero, ← hze, List.getD_eq_getElem?_getD] at this
            rw [List.getElem?_map]
            rw [List.getElem?_eq_getElem (by rw [cutL_length]; omega)] at this ⊢
            simpa using this
          rw [e0] at hc0
          clear hbg hgg hcm hcs htake e0 cur
          have hmk : ∀ W : World, (Instr.makeSlice 59 (.int .i64 (n : Int)) (.int .i64 (n : Int))).run Tryz.prog W = .ok (.slice (some ⟨W.heap.size, 0, none⟩) n n) (W.alloc (.cells (madeCells #[.int .u8 0] n) 5)) := run_make_row' (P := Tryz.prog) 59 5 (.int .u8 0) 1 Tryz.underlying59 info_u8 rfl .i64 .i64 n (by omega) (by omega)
          have hcv : ∀ W : World, (convert 59 9 (.slice (some ⟨W.heap.size, 0, none⟩) n n)).run Tryz.prog ((W.alloc (.cells (madeCells #[.int .u8 0] n) 5)).drew) = .ok (.string (zs n)) ((W.alloc (.cells (madeCells #[.int .u8 0] n) 5)).drew) := convN hn
          have hzz : (zs n).size = n := zs_size n
          have hgl : g < wr.heap.size := World.block_lt_of_cell? wr _ hc0
          have hc1 : (wr.alloc (.cells (madeCells #[.int .u8 0] n) 5)).cell? ⟨g, 0, none⟩ = some (.string z) := ((Kp.refl wr).alloc _).held hc0
          have HZ : Hid (z = cutO n (l.getD 0 noS)) := hze
          clear hze
          by_cases hsh : s.size ≤ n
          · have hmn : min (s.size : Int) (n : Int) = s.size := by omega
            have HC : Hid ((s ++ zs n).extract 0 z.size = cutE n true l k) := by show (s ++ zs n).extract 0 z.size = _; rw [cutE_even l k (by omega), ← HS.out, ← HZ.out, cutO_short s hsh]
            go_wp2_with fail
            go_region
            have hown2 : ((wr.alloc (.cells (madeCells #[.int .u8 0] n) 5)).drew).ownsRow w.heap.size 9 1 (.slice (some ⟨g, 0, none⟩) k cp) k ((cutL n true l k).map Value.string) := (hown.alloc _).drew
            have K2 : Kp w ((wr.alloc (.cells (madeCells #[.int .u8 0] n) 5)).drew) := (hK.alloc _).drew
            obtain ⟨w2, hw2⟩ : ∃ w2, w2 = (wr.alloc (.cells (madeCells #[.int .u8 0] n) 5)).drew := ⟨_, rfl⟩
            rw [← hw2] at hown2 K2 ⊢
            have hzw := K2.size
            clear hw2 hown hK hmk hcv hc1 hc0 hck hgl hz
            go_wp2_with (at_builtin; refine wpList_append_own _ rfl _ _ 33 rfl w.heap.size 9 i0 (.string ByteArray.empty) 1 16 Tryz.underlying33 hi hz0 hz1 hz2 rfl (by decide) _ _ _ rfl (hown2.alloc _) ⟨w2.heap.size, 0, none⟩ 1 1 [.string ((s ++ zs n).extract 0 z.size)] rfl rfl ?c1 ?c2 ?c3 ?c4 ?c5 ?_)
            case c1 =>
              intro j u hj
              match j, hj with
              | 0, hj => simp at hj; subst hj; simp [Addr.add]
            case c2 => intro u hu; simp at hu; subst hu; rfl
            case c3 => unfold maxLen; omega
            case c4 => omega
            case c5 => simp; omega
            · intro v' w3 hown3 hgrow3 _
              have hK3 : Kp w w3 := (K2.alloc _).grown hgrow3 (own_lt hown2)
              rw [HC.out, cutL_snoc] at hown3
              clear hgrow3 hown2 K2
              go_wp2
              go_roundw
              case rel => exact ⟨k + 1, by omega, by go_num, hown3, hK3⟩
              case measure => simp [intOf] <;> omega
          · have hmn : min (s.size : Int) (n : Int) = n := by omega
            have hx : (s.extract 0 n).size = n := by rw [extract_size _ _ _ (by omega)]; omega
            have HC : Hid ((s.extract 0 n ++ zs n).extract 0 z.size = cutE n true l k) := by show (s.extract 0 n ++ zs n).extract 0 z.size = _; rw [cutE_even l k (by omega), ← HS.out, ← HZ.out, cutO_long s (by omega)]
            go_wp2_with fail
            go_region
            have hown2 : ((wr.alloc (.cells (madeCells #[.int .u8 0] n) 5)).drew).ownsRow w.heap.size 9 1 (.slice (some ⟨g, 0, none⟩) k cp) k ((cutL n true l k).map Value.string) := (hown.alloc _).drew
            have K2 : Kp w ((wr.alloc (.cells (madeCells #[.int .u8 0] n) 5)).drew) := (hK.alloc _).drew
            obtain ⟨w2, hw2⟩ : ∃ w2, w2 = (wr.alloc (.cells (madeCells #[.int .u8 0] n) 5)).drew := ⟨_, rfl⟩
            rw [← hw2] at hown2 K2 ⊢
            have hzw := K2.size
            clear hw2 hown hK hmk hcv hc1 hc0 hck hgl hz
            go_wp2_with (at_builtin; refine wpList_append_own _ rfl _ _ 33 rfl w.heap.size 9 i0 (.string ByteArray.empty) 1 16 Tryz.underlying33 hi hz0 hz1 hz2 rfl (by decide) _ _ _ rfl (hown2.alloc _) ⟨w2.heap.size, 0, none⟩ 1 1 [.string ((s.extract 0 n ++ zs n).extract 0 z.size)] rfl rfl ?c1 ?c2 ?c3 ?c4 ?c5 ?_)
            case c1 =>
              intro j u hj
              match j, hj with
              | 0, hj => simp at hj; subst hj; simp [Addr.add]
            case c2 => intro u hu; simp at hu; subst hu; rfl
            case c3 => unfold maxLen; omega
            case c4 => omega
            case c5 => simp; omega
            · intro v' w3 hown3 hgrow3 _
              have hK3 : Kp w w3 := (K2.alloc _).grown hgrow3 (own_lt hown2)
              rw [HC.out, cutL_snoc] at hown3
              clear hgrow3 hown2 K2
              go_wp2
              go_roundw
              case rel => exact ⟨k + 1, by omega, by go_num, hown3, hK3⟩
              case measure => simp [intOf] <;> omega
    · obtain rfl : k = 36 := by omega
      clear hc hs
      go_wp2
      go_ret
      exact ⟨_, rfl, hown, hK⟩
set_option maxRecDepth 100000 in
set_option maxHeartbeats 8000000 in
theorem cut_even (hn : n ≤ 64) (b off cap : Nat) (l : List ByteArray) (_h0 : 0 < l.length) (h1 : l.length ≤ cap) (h2 : cap ≤ maxLen) (h36 : l.length ≤ 36) (hs : ∀ i, i < l.length → (l.getD i noS).size ≤ maxLen) (w : World) (hc : ∀ i, i < l.length → w.cell? ⟨b, off + i, none⟩ = some (.string (l.getD i noS))) :
    Calls Tryz.prog 14 #[.slice (some ⟨b, off, none⟩) l.length cap, .int .i64 (n : Int), .bool true] w fun e w' => ∃ v, e = .returned v ∧ w'.ownsRow w.heap.size 9 1 v (l.length) ((cutL n true l (l.length)).map Value.string) ∧ Kp w w' := by
  obtain ⟨i0, hi, hz0, hz1, hz2⟩ := info_parts info_str
  unfold maxLen at h2 hs
  have hmo : min (l.length : Int) 36 = l.length := by omega
  go_enter Tryz.func14, Tryz.ntmps14
  go_wp2
  go_loopw [7, 16] (fun v i wr => ∃ k : Nat, k ≤ l.length ∧ i = .int .i64 k ∧ wr.ownsRow w.heap.size 9 1 v k ((cutL n true l k).map Value.string) ∧ Kp w wr) (fun _ i _ => l.length - (intOf i).toNat)
  case atStart => exact ⟨0, by omega, rfl, World.ownsRow_nil _ _ _ _, Kp.refl w⟩
  case round =>
    obtain ⟨k, hk, rfl, hown, hK⟩ := hrel
    by_cases hlt : k < l.length
    · have hkl : k < l.length := by omega
      have hck := hK.held (hc k hkl)
      have hsk := hs k hkl
      have hz := hK.size
      obtain ⟨s, hse⟩ : ∃ s, s = l.getD k noS := ⟨_, rfl⟩
      rw [← hse] at hck hsk
      have HS : Hid (s = l.getD k noS) := hse
      clear hse hc hs
      by_cases hk0 : k = 0
      · subst hk0
        simp only [Nat.add_zero] at hck
        by_cases hsh : s.size ≤ n
        · have hmn : min (s.size : Int) (n : Int) = s.size := by omega
          have HC : Hid (s = cutE n true l 0) := by show s = _; rw [cutE_zero, ← HS.out, cutO_short s hsh]
          go_wp2_with (at_builtin; refine wpList_append_own _ rfl _ _ 33 rfl w.heap.size 9 i0 (.string ByteArray.empty) 1 16 Tryz.underlying33 hi hz0 hz1 hz2 rfl (by decide) _ _ _ rfl (hown.alloc _) ⟨wr.heap.size, 0, none⟩ 1 1 [.string (s)] rfl rfl ?c1 ?c2 ?c3 ?c4 ?c5 ?_)
          case c1 =>
            intro j u hj
            match j, hj with
            | 0, hj => simp at hj; subst hj; simp [Addr.add]
          case c2 => intro u hu; simp at hu; subst hu; rfl
          case c3 => unfold maxLen; omega
          case c4 => omega
          case c5 => simp; omega
          · intro v' w3 hown3 hgrow3 _
            have hK3 : Kp w w3 := (hK.alloc _).grown hgrow3 (own_lt hown)
            rw [HC.out, cutL_snoc] at hown3
            clear hgrow3 hown hK
            go_wp2
            go_roundw
            case rel => exact ⟨1, by omega, by go_num, hown3, hK3⟩
            case measure => simp [intOf] <;> omega
        · have hmn : min (s.size : Int) (n : Int) = n := by omega
          have HC : Hid (s.extract 0 n = cutE n true l 0) := by show s.extract 0 n = _; rw [cutE_zero, ← HS.out, cutO_long s (by omega)]
          go_wp2_with (at_builtin; refine wpList_append_own _ rfl _ _ 33 rfl w.heap.size 9 i0 (.string ByteArray.empty) 1 16 Tryz.underlying33 hi hz0 hz1 hz2 rfl (by decide) _ _ _ rfl (hown.alloc _) ⟨wr.heap.size, 0, none⟩ 1 1 [.string (s.extract 0 n)] rfl rfl ?c1 ?c2 ?c3 ?c4 ?c5 ?_)
          case c1 =>
            intro j u hj
            match j, hj with
            | 0, hj => simp at hj; subst hj; simp [Addr.add]
          case c2 => intro u hu; simp at hu; subst hu; rfl
          case c3 => unfold maxLen; omega
          case c4 => omega
          case c5 => simp; omega
          · intro v' w3 hown3 hgrow3 _
            have hK3 : Kp w w3 := (hK.alloc _).grown hgrow3 (own_lt hown)
            rw [HC.out, cutL_snoc] at hown3
            clear hgrow3 hown hK
            go_wp2
            go_roundw
            case rel => exact ⟨1, by omega, by go_num, hown3, hK3⟩
            case measure => simp [intOf] <;> omega
      · have hk1 : (0 : Int) < (k : Int) := by omega
        rcases hown.2 with ⟨rfl, h00⟩ | ⟨g, cp, cur, rfl, hbg, hgg, hnc, hcm, hcs, htake⟩
        · exact absurd h00 hk0
        · have hc0 := hown.cellAt 0 (by omega)
          obtain ⟨z, hze⟩ : ∃ z, z = cutO n (l.getD 0 noS) := ⟨_, rfl⟩
          have hzs : z.size ≤ n := by rw [hze]; exact cutO_le _
          have e0 : ((cutL n true l k).map Value.string)[0]? = some (.string z) := by
            have := cutL_at (n := n) true l k 0 (by omega)
            rw [cutE_zero, ← hze, List.getD_eq_getElem?_getD] at this
            rw [List.getElem?_map]
            rw [List.getElem?_eq_getElem (by rw [cutL_length]; omega)] at this ⊢
            simpa using this
          rw [e0] at hc0
          clear hbg hgg hcm hcs htake e0 cur
          have hmk : ∀ W : World, (Instr.makeSlice 59 (.int .i64 (n : Int)) (.int .i64 (n : Int))).run Tryz.prog W = .ok (.slice (some ⟨W.heap.size, 0, none⟩) n n) (W.alloc (.cells (madeCells #[.int .u8 0] n) 5)) := run_make_row' (P := Tryz.prog) 59 5 (.int .u8 0) 1 Tryz.underlying59 info_u8 rfl .i64 .i64 n (by omega) (by omega)
          have hcv : ∀ W : World, (convert 59 9 (.slice (some ⟨W.heap.size, 0, none⟩) n n)).run Tryz.prog ((W.alloc (.cells (madeCells #[.int .u8 0] n) 5)).drew) = .ok (.string (zs n)) ((W.alloc (.cells (madeCells #[.int .u8 0] n) 5)).drew) := convN hn
          have hzz : (zs n).size = n := zs_size n
          have hgl : g < wr.heap.size := World.block_lt_of_cell? wr _ hc0
          have hc1 : (wr.alloc (.cells (madeCells #[.int .u8 0] n) 5)).cell? ⟨g, 0, none⟩ = some (.string z) := ((Kp.refl wr).alloc _).held hc0
          have HZ : Hid (z = cutO n (l.getD 0 noS)) := hze
          clear hze
          by_cases hsh : s.size ≤ n
          · have hmn : min (s.size : Int) (n : Int) = s.size := by omega
            have HC : Hid ((s ++ zs n).extract 0 z.size = cutE n true l k) := by show (s ++ zs n).extract 0 z.size = _; rw [cutE_even l k (by omega), ← HS.out, ← HZ.out, cutO_short s hsh]
            go_wp2_with fail
            go_region
            have hown2 : ((wr.alloc (.cells (madeCells #[.int .u8 0] n) 5)).drew).ownsRow w.heap.size 9 1 (.slice (some ⟨g, 0, none⟩) k cp) k ((cutL n true l k).map Value.string) := (hown.alloc _).drew
            have K2 : Kp w ((wr.alloc (.cells (madeCells #[.int .u8 0] n) 5)).drew) := (hK.alloc _).drew
            obtain ⟨w2, hw2⟩ : ∃ w2, w2 = (wr.alloc (.cells (madeCells #[.int .u8 0] n) 5)).drew := ⟨_, rfl⟩
            rw [← hw2] at hown2 K2 ⊢
            have hzw := K2.size
            clear hw2 hown hK hmk hcv hc1 hc0 hck hgl hz
            go_wp2_with (at_builtin; refine wpList_append_own _ rfl _ _ 33 rfl w.heap.size 9 i0 (.string ByteArray.empty) 1 16 Tryz.underlying33 hi hz0 hz1 hz2 rfl (by decide) _ _ _ rfl (hown2.alloc _) ⟨w2.heap.size, 0, none⟩ 1 1 [.string ((s ++ zs n).extract 0 z.size)] rfl rfl ?c1 ?c2 ?c3 ?c4 ?c5 ?_)
            case c1 =>
              intro j u hj
              match j, hj with
              | 0, hj => simp at hj; subst hj; simp [Addr.add]
            case c2 => intro u hu; simp at hu; subst hu; rfl
            case c3 => unfold maxLen; omega
            case c4 => omega
            case c5 => simp; omega
            · intro v' w3 hown3 hgrow3 _
              have hK3 : Kp w w3 := (K2.alloc _).grown hgrow3 (own_lt hown2)
              rw [HC.out, cutL_snoc] at hown3
              clear hgrow3 hown2 K2
              go_wp2
              go_roundw
              case rel => exact ⟨k + 1, by omega, by go_num, hown3, hK3⟩
              case measure => simp [intOf] <;> omega
          · have hmn : min (s.size : Int) (n : Int) = n := by omega
            have hx : (s.extract 0 n).size = n := by rw [extract_size _ _ _ (by omega)]; omega
            have HC : Hid ((s.extract 0 n ++ zs n).extract 0 z.size = cutE n true l k) := by show (s.extract 0 n ++ zs n).extract 0 z.size = _; rw [cutE_even l k (by omega), ← HS.out, ← HZ.out, cutO_long s (by omega)]
            go_wp2_with fail
            go_region
            have hown2 : ((wr.alloc (.cells (madeCells #[.int .u8 0] n) 5)).drew).ownsRow w.heap.size 9 1 (.slice (some ⟨g, 0, none⟩) k cp) k ((cutL n true l k).map Value.string) := (hown.alloc _).drew
            have K2 : Kp w ((wr.alloc (.cells (madeCells #[.int .u8 0] n) 5)).drew) := (hK.alloc _).drew
            obtain ⟨w2, hw2⟩ : ∃ w2, w2 = (wr.alloc (.cells (madeCells #[.int .u8 0] n) 5)).drew := ⟨_, rfl⟩
            rw [← hw2] at hown2 K2 ⊢
            have hzw := K2.size
            clear hw2 hown hK hmk hcv hc1 hc0 hck hgl hz
            go_wp2_with (at_builtin; refine wpList_append_own _ rfl _ _ 33 rfl w.heap.size 9 i0 (.string ByteArray.empty) 1 16 Tryz.underlying33 hi hz0 hz1 hz2 rfl (by decide) _ _ _ rfl (hown2.alloc _) ⟨w2.heap.size, 0, none⟩ 1 1 [.string ((s.extract 0 n ++ zs n).extract 0 z.size)] rfl rfl ?c1 ?c2 ?c3 ?c4 ?c5 ?_)
            case c1 =>
              intro j u hj
              match j, hj with
              | 0, hj => simp at hj; subst hj; simp [Addr.add]
            case c2 => intro u hu; simp at hu; subst hu; rfl
            case c3 => unfold maxLen; omega
            case c4 => omega
            case c5 => simp; omega
            · intro v' w3 hown3 hgrow3 _
              have hK3 : Kp w w3 := (K2.alloc _).grown hgrow3 (own_lt hown2)
              rw [HC.out, cutL_snoc] at hown3
              clear hgrow3 hown2 K2
              go_wp2
              go_roundw
              case rel => exact ⟨k + 1, by omega, by go_num, hown3, hK3⟩
              case measure => simp [intOf] <;> omega
    · obtain rfl : k = l.length := by omega
      clear hc hs
      go_wp2
      go_ret
      exact ⟨_, rfl, hown, hK⟩
set_option maxHeartbeats 1000000 in
theorem cut_none (ev : Bool) (a : Option Addr) (cap : Nat) (w : World) : Calls Tryz.prog 14 #[.slice a 0 cap, .int .i64 (n : Int), .bool ev] w fun e w' => ∃ v, e = .returned v ∧ w'.ownsRow w.heap.size 9 1 v 0 [] ∧ Kp w w' := by
  go_enter Tryz.func14, Tryz.ntmps14
  go_wp2
  refine wp_loop_rounds 1 ?_
  rw [rounds_succ]
  go_wp2
  go_ret
  exact ⟨_, rfl, World.ownsRow_nil _ _ _ _, Kp.refl _⟩
theorem cut_any (hn : n ≤ 64) (ev : Bool) (v : Value) (l : List ByteArray) (hs : ∀ i, i < l.length → (l.getD i noS).size ≤ maxLen) (w : World) (h : StrsIn w v l) :
    Calls Tryz.prog 14 #[v, .int .i64 (n : Int), .bool ev] w fun e w' => ∃ v, e = .returned v ∧ w'.ownsRow w.heap.size 9 1 v (min l.length 36) ((cutL n ev l (min l.length 36)).map Value.string) ∧ Kp w w' := by
  cases h with
  | empty a cap h => exact cut_none ev a cap w
  | some b off cap l h0 h1 h2 hc =>
    by_cases h36 : 36 < l.length
    · rw [Nat.min_eq_right (by omega)]
      cases ev with
      | false => exact cut_plain36 hn b off cap l h1 h2 h36 hs w hc
      | true => exact cut_even36 hn b off cap l h1 h2 h36 hs w hc
    · rw [Nat.min_eq_left (by omega)]
      cases ev with
      | false => exact cut_plain hn b off cap l h0 h1 h2 (by omega) hs w hc
      | true => exact cut_even hn b off cap l h0 h1 h2 (by omega) hs w hc
theorem cutL_small (hn : n ≤ 64) (ev : Bool) (l : List ByteArray) (k : Nat) : ∀ i, i < (cutL n ev l k).length → ((cutL n ev l k).getD i noS).size ≤ maxLen := fun i hi => by
  rw [cutL_length] at hi
  have := cutE_le (n := n) ev l i
  rw [cutL_at ev l k i hi]
  unfold maxLen; omega

end Go.Proofs.YtbcmgogfpboibaaGreatDoor
