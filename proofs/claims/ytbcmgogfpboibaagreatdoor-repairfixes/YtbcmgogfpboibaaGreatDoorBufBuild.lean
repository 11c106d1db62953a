/-
  Contracts of bulk's build, with each of the four words: the text that is made of the words, or the error. Conditions: that the list's cells hold the texts, and what the word answers.
-/
import Derived.Test.YtbcmgogfpboibaaGreatDoorBufLen
import Derived.Test.YtbcmgogfpboibaaGreatDoorBufWord
import Derived.WalkKit
namespace Go.Proofs.YtbcmgogfpboibaaGreatDoor
open Go.RowKit Plain Go.BigFrame

theorem ownsRow_kp {w w' : World} {base : Nat} {e : TypeId} {size : Nat} {v : Value} {n : Nat} {xs : List Value} (h : w.ownsRow base e size v n xs) (k : Kp w w') : w'.ownsRow base e size v n xs := by
  refine ⟨h.1, ?_⟩
  rcases h.2 with hn | ⟨g, cap, cur, rfl, hb, hgg, rest⟩
  · exact .inl hn
  · refine .inr ⟨g, cap, cur, rfl, hb, ?_, rest⟩
    rw [k.block g (Array.getElem?_eq_some_iff.1 hgg).1]
    exact hgg
theorem byI_nat (x j : Nat) (e : 2 ^ (8 * j) = 256 ^ j) : byI x j = ((x / 256 ^ j % 256 : Nat) : Int) := by
  unfold byI
  rw [Int.natCast_emod, Int.natCast_ediv, ← e]
  simp
theorem ofNat_back (n : Nat) (h : n < 256) : ((UInt8.ofNat ((n : Nat) : Int).toNat).toNat : Int) = (n : Int) := by
  simp
  omega
theorem word_cells (wd : Nat → Nat) (k : Nat) : byteCells (strOfNums (stL (wd (8 * k)))) = (List.range 8).map fun j => Value.int .u8 ((wbF wd (8 * k + j) : Nat) : Int) := by
  have key : ∀ j, j < 8 → byI (wd (8 * k)) j = ((wbF wd (8 * k + j) : Nat) : Int) := by
    intro j hj
    rw [byI_nat _ _ (by rw [Nat.pow_mul])]
    unfold wbF
    rw [show (8 * k + j) / 8 = k by omega, show (8 * k + j) % 8 = j by omega]
  have hr : List.range 8 = [0, 1, 2, 3, 4, 5, 6, 7] := by decide
  rw [hr]
  unfold stL
  rw [key 0 (by omega), key 1 (by omega), key 2 (by omega), key 3 (by omega), key 4 (by omega), key 5 (by omega), key 6 (by omega), key 7 (by omega)]
  unfold byteCells strOfNums
  simp only [List.map_cons, List.map_nil, ofNat_back _ (wbF_lt _ _)]
theorem word_size (x : Nat) : (strOfNums (stL x)).size = 8 := rfl
theorem cells_step (F : Nat → Value) (k : Nat) : (List.range (8 * k)).map F ++ (List.range 8).map (fun j => F (8 * k + j)) = (List.range (8 * (k + 1))).map F := by
  rw [show 8 * (k + 1) = 8 * k + 8 by omega, List.range_add, List.map_append, List.map_map]
  rfl

set_option maxHeartbeats 1000000 in
theorem length_none (a : Option Addr) (cap : Nat) (w : World) : Calls Tryz.prog 70 #[.slice a 0 cap] w fun e w' => e = .returned (.tuple #[.int .i64 0, .int .i64 0]) ∧ w' = w := by
  go_enter Tryz.func70, Tryz.ntmps70
  go_wp2
  refine wp_loop_rounds 1 ?_
  rw [rounds_succ]
  go_wp2
  refine wp_loop_rounds 1 ?_
  rw [rounds_succ]
  go_wp2
  go_ret2
  exact ⟨rfl, rfl⟩
theorem length_any (v : Value) (l : List ByteArray) (hs : ∀ i, i < l.length → (l.getD i noS).size ≤ maxLen) (w : World) (h : StrsIn w v l) :
    Calls Tryz.prog 70 #[v] w fun e w' => e = .returned (.tuple #[.int .i64 (lenS l : Nat), .int .i64 (fitE l)]) ∧ w' = w := by
  cases h with
  | empty a cap h => exact length_none a cap w
  | some b off cap l h0 h1 h2 hc => exact length_some b off cap l h0 h1 h2 hs w hc
theorem info_u8 : (Tryz.prog.info? 5).map (fun i => (i.zero, i.size, i.bytes)) = some (some (.int .u8 0), 1, 1) := by kernel_rfl
theorem lenS_le (l : List ByteArray) (h : fitE l = 0) : (l.getD 0 noS).size ≤ 65536 := by
  by_cases h0 : 0 < l.length
  · exact (fit_is l h).1 0 h0
  · obtain rfl : l = [] := List.eq_nil_of_length_eq_zero (by omega)
    exact Nat.zero_le _

set_option maxRecDepth 100000 in
set_option maxHeartbeats 4000000 in
theorem build_add (b0 : Nat) (v : Value) (l : List ByteArray) (hs : ∀ i, i < l.length → (l.getD i noS).size ≤ maxLen) (wd : Nat → Nat) (hwd : ∀ p, wd p < 18446744073709551616) (w : World) (h : StrsIn w v l)
    (hword : ∀ w', Kp w w' → ∀ p : Nat, p < 9223372036854775807 → Calls Tryz.prog 57 #[.int .i64 p, .pointer (some ⟨b0, 0, none⟩)] w' fun e w'' => e = .returned (.int .u64 (wd p : Nat)) ∧ Kp w' w'') :
    Calls Tryz.prog 56 #[.func (.func 57) #[] #[.pointer (some ⟨b0, 0, none⟩)], v] w fun e w' => e = .returned (.tuple #[.string (bs (lenS l) (wbF wd)), .int .i64 (fitE l)]) ∧ Kp w w' := by
  have HL := length_any v l hs w h
  obtain ⟨i0, hi, hz0, hz1, hz2⟩ := info_parts info_u8
  go_enter Tryz.func56, Tryz.ntmps56
  go_wp2_with fail
  refine HL.mono ?_; rintro e w' ⟨rfl, hww⟩; subst hww
  clear HL h hs
  by_cases hf : fitE l = 0
  · have hn := lenS_le l hf
    rw [hf, fit_zero l hf]
    obtain ⟨n, hne⟩ : ∃ n, n = (l.getD 0 noS).size := ⟨_, rfl⟩
    rw [← hne] at hn ⊢
    have HF : Hid (fitE l = 0) := hf
    have HN : Hid (lenS l = n) := by show lenS l = n; rw [fit_zero l hf, hne]
    clear hne hf
    go_wp2_with (at_make; refine wpList_make_own _ rfl _ _ 59 rfl w'.heap.size 5 i0 (.int .u8 0) 1 Tryz.underlying59 hi hz0 hz1 .i64 .i64 _ (n + 8) rfl rfl (by omega) (by rw [hz2]; omega) (by unfold maxLen; omega) (Nat.le_refl _) ?_; intro w0 hown0 hgrow0)
    have hK0 : Kp w' w0 := (Kp.refl w').grown hgrow0 (fun k hk => by cases hk)
    clear hgrow0
    go_loopw [8, 9] (fun v i wr => ∃ k : Nat, 8 * k ≤ n + 7 ∧ i = .int .i64 (8 * k : Nat) ∧ v = .slice (some ⟨w'.heap.size, 0, none⟩) (8 * k) (n + 8) ∧ wr.ownsRow w'.heap.size 5 1 (.slice (some ⟨w'.heap.size, 0, none⟩) (8 * k) (n + 8)) (8 * k) ((List.range (8 * k)).map fun i => Value.int .u8 ((wbF wd i : Nat) : Int)) ∧ Kp w' wr) (fun _ i _ => n + 8 - (intOf i).toNat)
    case atStart => exact ⟨0, by omega, rfl, rfl, hown0, hK0⟩
    case round =>
      obtain ⟨k, hk, rfl, rfl, hown, hK⟩ := hrel
      clear hown0 hK0
      by_cases hlt : 8 * k < n
      · have hw := hwd (8 * k)
        have HC : Hid (byteCells (strOfNums (stL (wd (8 * k)))) = (List.range 8).map fun j => Value.int .u8 ((wbF wd (8 * k + j) : Nat) : Int)) := word_cells wd k
        have HW := hword wr hK (8 * k) (by omega)
        clear hword
        obtain ⟨X, hX⟩ : ∃ X, X = wd (8 * k) := ⟨_, rfl⟩
        rw [← hX] at hw HC HW
        clear hX
        go_wp2_with fail
        refine HW.mono ?_; rintro e w1 ⟨rfl, hK1⟩
        have hown1 := ownsRow_kp hown hK1
        have hK1' := hK.trans hK1
        clear HW hown hK hK1
        go_wp2_with fail
        refine (store_any X hw w1).mono ?_; rintro e w2 ⟨rfl, hw2⟩
        have hT := word_size X
        obtain ⟨T, hTe⟩ : ∃ T, T = strOfNums (stL X) := ⟨_, rfl⟩
        rw [← hTe] at HC hT ⊢
        clear hTe
        have hown2 : w2.ownsRow w'.heap.size 5 1 (.slice (some ⟨w'.heap.size, 0, none⟩) (8 * k) (n + 8)) (8 * k) ((List.range (8 * k)).map fun i => Value.int .u8 ((wbF wd i : Nat) : Int)) := by rw [hw2]; exact hown1.alloc _
        have hK2 : Kp w' w2 := by rw [hw2]; exact hK1'.alloc _
        clear hw2 hown1 hK1'
        go_wp2_with (at_builtin; refine wpList_append_fits_str _ rfl _ _ 59 9 rfl w'.heap.size 5 i0 Tryz.underlying59 Tryz.underlying9 hi hz1 w'.heap.size (8 * k) (n + 8) _ rfl hown2 T rfl (by omega) ?_; intro w3 hown3 hgrow3)
        rw [HC.out, cells_step, hT] at hown3
        have hK3 : Kp w' w3 := hK2.grown hgrow3 (fun k hk => by cases hk; exact Nat.le_refl _)
        clear hgrow3 hown2 hK2 HC
        go_roundw
        case rel => exact ⟨k + 1, by omega, by go_num, by first | rfl | (congr 1; omega), hown3, hK3⟩
        case measure => simp [intOf]; omega
      · have hcv := convert_owned (P := Tryz.prog) (m := n) 59 9 Tryz.underlying59 Tryz.underlying5 Tryz.underlying9 hown (by omega) (n + 8)
        clear hword hown
        go_wp2
        go_ret2
        exact ⟨by rw [HF.out, HN.out]; rfl, hK⟩
  · have hb : ((fitE l) != 0) = true := by simp [hf]
    rw [fit_not l hf]
    have HN : Hid (lenS l = 0) := fit_not l hf
    clear hword
    go_wp2
    go_ret2
    exact ⟨by rw [HN.out]; rfl, Kp.refl _⟩
set_option maxRecDepth 100000 in
set_option maxHeartbeats 4000000 in
theorem build_scale (b0 b1 : Nat) (v : Value) (l : List ByteArray) (hs : ∀ i, i < l.length → (l.getD i noS).size ≤ maxLen) (wd : Nat → Nat) (hwd : ∀ p, wd p < 18446744073709551616) (w : World) (h : StrsIn w v l)
    (hword : ∀ w', Kp w w' → ∀ p : Nat, p < 9223372036854775807 → Calls Tryz.prog 93 #[.int .i64 p, .pointer (some ⟨b0, 0, none⟩), .pointer (some ⟨b1, 0, none⟩)] w' fun e w'' => e = .returned (.int .u64 (wd p : Nat)) ∧ Kp w' w'') :
    Calls Tryz.prog 56 #[.func (.func 93) #[] #[.pointer (some ⟨b0, 0, none⟩), .pointer (some ⟨b1, 0, none⟩)], v] w fun e w' => e = .returned (.tuple #[.string (bs (lenS l) (wbF wd)), .int .i64 (fitE l)]) ∧ Kp w w' := by
  have HL := length_any v l hs w h
  obtain ⟨i0, hi, hz0, hz1, hz2⟩ := info_parts info_u8
  go_enter Tryz.func56, Tryz.ntmps56
  go_wp2_with fail
  refine HL.mono ?_; rintro e w' ⟨rfl, hww⟩; subst hww
  clear HL h hs
  by_cases hf : fitE l = 0
  · have hn := lenS_le l hf
    rw [hf, fit_zero l hf]
    obtain ⟨n, hne⟩ : ∃ n, n = (l.getD 0 noS).size := ⟨_, rfl⟩
    rw [← hne] at hn ⊢
    have HF : Hid (fitE l = 0) := hf
    have HN : Hid (lenS l = n) := by show lenS l = n; rw [fit_zero l hf, hne]
    clear hne hf
    go_wp2_with (at_make; refine wpList_make_own _ rfl _ _ 59 rfl w'.heap.size 5 i0 (.int .u8 0) 1 Tryz.underlying59 hi hz0 hz1 .i64 .i64 _ (n + 8) rfl rfl (by omega) (by rw [hz2]; omega) (by unfold maxLen; omega) (Nat.le_refl _) ?_; intro w0 hown0 hgrow0)
    have hK0 : Kp w' w0 := (Kp.refl w').grown hgrow0 (fun k hk => by cases hk)
    clear hgrow0
    go_loopw [8, 9] (fun v i wr => ∃ k : Nat, 8 * k ≤ n + 7 ∧ i = .int .i64 (8 * k : Nat) ∧ v = .slice (some ⟨w'.heap.size, 0, none⟩) (8 * k) (n + 8) ∧ wr.ownsRow w'.heap.size 5 1 (.slice (some ⟨w'.heap.size, 0, none⟩) (8 * k) (n + 8)) (8 * k) ((List.range (8 * k)).map fun i => Value.int .u8 ((wbF wd i : Nat) : Int)) ∧ Kp w' wr) (fun _ i _ => n + 8 - (intOf i).toNat)
    case atStart => exact ⟨0, by omega, rfl, rfl, hown0, hK0⟩
    case round =>
      obtain ⟨k, hk, rfl, rfl, hown, hK⟩ := hrel
      clear hown0 hK0
      by_cases hlt : 8 * k < n
      · have hw := hwd (8 * k)
        have HC : Hid (byteCells (strOfNums (stL (wd (8 * k)))) = (List.range 8).map fun j => Value.int .u8 ((wbF wd (8 * k + j) : Nat) : Int)) := word_cells wd k
        have HW := hword wr hK (8 * k) (by omega)
        clear hword
        obtain ⟨X, hX⟩ : ∃ X, X = wd (8 * k) := ⟨_, rfl⟩
        rw [← hX] at hw HC HW
        clear hX
        go_wp2_with fail
        refine HW.mono ?_; rintro e w1 ⟨rfl, hK1⟩
        have hown1 := ownsRow_kp hown hK1
        have hK1' := hK.trans hK1
        clear HW hown hK hK1
        go_wp2_with fail
        refine (store_any X hw w1).mono ?_; rintro e w2 ⟨rfl, hw2⟩
        have hT := word_size X
        obtain ⟨T, hTe⟩ : ∃ T, T = strOfNums (stL X) := ⟨_, rfl⟩
        rw [← hTe] at HC hT ⊢
        clear hTe
        have hown2 : w2.ownsRow w'.heap.size 5 1 (.slice (some ⟨w'.heap.size, 0, none⟩) (8 * k) (n + 8)) (8 * k) ((List.range (8 * k)).map fun i => Value.int .u8 ((wbF wd i : Nat) : Int)) := by rw [hw2]; exact hown1.alloc _
        have hK2 : Kp w' w2 := by rw [hw2]; exact hK1'.alloc _
        clear hw2 hown1 hK1'
        go_wp2_with (at_builtin; refine wpList_append_fits_str _ rfl _ _ 59 9 rfl w'.heap.size 5 i0 Tryz.underlying59 Tryz.underlying9 hi hz1 w'.heap.size (8 * k) (n + 8) _ rfl hown2 T rfl (by omega) ?_; intro w3 hown3 hgrow3)
        rw [HC.out, cells_step, hT] at hown3
        have hK3 : Kp w' w3 := hK2.grown hgrow3 (fun k hk => by cases hk; exact Nat.le_refl _)
        clear hgrow3 hown2 hK2 HC
        go_roundw
        case rel => exact ⟨k + 1, by omega, by go_num, by first | rfl | (congr 1; omega), hown3, hK3⟩
        case measure => simp [intOf]; omega
      · have hcv := convert_owned (P := Tryz.prog) (m := n) 59 9 Tryz.underlying59 Tryz.underlying5 Tryz.underlying9 hown (by omega) (n + 8)
        clear hword hown
        go_wp2
        go_ret2
        exact ⟨by rw [HF.out, HN.out]; rfl, hK⟩
  · have hb : ((fitE l) != 0) = true := by simp [hf]
    rw [fit_not l hf]
    have HN : Hid (lenS l = 0) := fit_not l hf
    clear hword
    go_wp2
    go_ret2
    exact ⟨by rw [HN.out]; rfl, Kp.refl _⟩
set_option maxRecDepth 100000 in
set_option maxHeartbeats 4000000 in
theorem build_fold (b0 b1 b2 : Nat) (v : Value) (l : List ByteArray) (hs : ∀ i, i < l.length → (l.getD i noS).size ≤ maxLen) (wd : Nat → Nat) (hwd : ∀ p, wd p < 18446744073709551616) (w : World) (h : StrsIn w v l)
    (hword : ∀ w', Kp w w' → ∀ p : Nat, p < 9223372036854775807 → Calls Tryz.prog 74 #[.int .i64 p, .pointer (some ⟨b0, 0, none⟩), .pointer (some ⟨b1, 0, none⟩), .pointer (some ⟨b2, 0, none⟩)] w' fun e w'' => e = .returned (.int .u64 (wd p : Nat)) ∧ Kp w' w'') :
    Calls Tryz.prog 56 #[.func (.func 74) #[] #[.pointer (some ⟨b0, 0, none⟩), .pointer (some ⟨b1, 0, none⟩), .pointer (some ⟨b2, 0, none⟩)], v] w fun e w' => e = .returned (.tuple #[.string (bs (lenS l) (wbF wd)), .int .i64 (fitE l)]) ∧ Kp w w' := by
  have HL := length_any v l hs w h
  obtain ⟨i0, hi, hz0, hz1, hz2⟩ := info_parts info_u8
  go_enter Tryz.func56, Tryz.ntmps56
  go_wp2_with fail
  refine HL.mono ?_; rintro e w' ⟨rfl, hww⟩; subst hww
  clear HL h hs
  by_cases hf : fitE l = 0
  · have hn := lenS_le l hf
    rw [hf, fit_zero l hf]
    obtain ⟨n, hne⟩ : ∃ n, n = (l.getD 0 noS).size := ⟨_, rfl⟩
    rw [← hne] at hn ⊢
    have HF : Hid (fitE l = 0) := hf
    have HN : Hid (lenS l = n) := by show lenS l = n; rw [fit_zero l hf, hne]
    clear hne hf
    go_wp2_with (at_make; refine wpList_make_own _ rfl _ _ 59 rfl w'.heap.size 5 i0 (.int .u8 0) 1 Tryz.underlying59 hi hz0 hz1 .i64 .i64 _ (n + 8) rfl rfl (by omega) (by rw [hz2]; omega) (by unfold maxLen; omega) (Nat.le_refl _) ?_; intro w0 hown0 hgrow0)
    have hK0 : Kp w' w0 := (Kp.refl w').grown hgrow0 (fun k hk => by cases hk)
    clear hgrow0
    go_loopw [8, 9] (fun v i wr => ∃ k : Nat, 8 * k ≤ n + 7 ∧ i = .int .i64 (8 * k : Nat) ∧ v = .slice (some ⟨w'.heap.size, 0, none⟩) (8 * k) (n + 8) ∧ wr.ownsRow w'.heap.size 5 1 (.slice (some ⟨w'.heap.size, 0, none⟩) (8 * k) (n + 8)) (8 * k) ((List.range (8 * k)).map fun i => Value.int .u8 ((wbF wd i : Nat) : Int)) ∧ Kp w' wr) (fun _ i _ => n + 8 - (intOf i).toNat)
    case atStart => exact ⟨0, by omega, rfl, rfl, hown0, hK0⟩
    case round =>
      obtain ⟨k, hk, rfl, rfl, hown, hK⟩ := hrel
      clear hown0 hK0
      by_cases hlt : 8 * k < n
      · have hw := hwd (8 * k)
        have HC : Hid (byteCells (strOfNums (stL (wd (8 * k)))) = (List.range 8).map fun j => Value.int .u8 ((wbF wd (8 * k + j) : Nat) : Int)) := word_cells wd k
        have HW := hword wr hK (8 * k) (by omega)
        clear hword
        obtain ⟨X, hX⟩ : ∃ X, X = wd (8 * k) := ⟨_, rfl⟩
        rw [← hX] at hw HC HW
        clear hX
        go_wp2_with fail
        refine HW.mono ?_; rintro e w1 ⟨rfl, hK1⟩
        have hown1 := ownsRow_kp hown hK1
        have hK1' := hK.trans hK1
        clear HW hown hK hK1
        go_wp2_with fail
        refine (store_any X hw w1).mono ?_; rintro e w2 ⟨rfl, hw2⟩
        have hT := word_size X
        obtain ⟨T, hTe⟩ : ∃ T, T = strOfNums (stL X) := ⟨_, rfl⟩
        rw [← hTe] at HC hT ⊢
        clear hTe
        have hown2 : w2.ownsRow w'.heap.size 5 1 (.slice (some ⟨w'.heap.size, 0, none⟩) (8 * k) (n + 8)) (8 * k) ((List.range (8 * k)).map fun i => Value.int .u8 ((wbF wd i : Nat) : Int)) := by rw [hw2]; exact hown1.alloc _
        have hK2 : Kp w' w2 := by rw [hw2]; exact hK1'.alloc _
        clear hw2 hown1 hK1'
        go_wp2_with (at_builtin; refine wpList_append_fits_str _ rfl _ _ 59 9 rfl w'.heap.size 5 i0 Tryz.underlying59 Tryz.underlying9 hi hz1 w'.heap.size (8 * k) (n + 8) _ rfl hown2 T rfl (by omega) ?_; intro w3 hown3 hgrow3)
        rw [HC.out, cells_step, hT] at hown3
        have hK3 : Kp w' w3 := hK2.grown hgrow3 (fun k hk => by cases hk; exact Nat.le_refl _)
        clear hgrow3 hown2 hK2 HC
        go_roundw
        case rel => exact ⟨k + 1, by omega, by go_num, by first | rfl | (congr 1; omega), hown3, hK3⟩
        case measure => simp [intOf]; omega
      · have hcv := convert_owned (P := Tryz.prog) (m := n) 59 9 Tryz.underlying59 Tryz.underlying5 Tryz.underlying9 hown (by omega) (n + 8)
        clear hword hown
        go_wp2
        go_ret2
        exact ⟨by rw [HF.out, HN.out]; rfl, hK⟩
  · have hb : ((fitE l) != 0) = true := by simp [hf]
    rw [fit_not l hf]
    have HN : Hid (lenS l = 0) := fit_not l hf
    clear hword
    go_wp2
    go_ret2
    exact ⟨by rw [HN.out]; rfl, Kp.refl _⟩
set_option maxRecDepth 100000 in
set_option maxHeartbeats 4000000 in
theorem build_double (b0 b1 : Nat) (v : Value) (l : List ByteArray) (hs : ∀ i, i < l.length → (l.getD i noS).size ≤ maxLen) (wd : Nat → Nat) (hwd : ∀ p, wd p < 18446744073709551616) (w : World) (h : StrsIn w v l)
    (hword : ∀ w', Kp w w' → ∀ p : Nat, p < 9223372036854775807 → Calls Tryz.prog 77 #[.int .i64 p, .pointer (some ⟨b0, 0, none⟩), .pointer (some ⟨b1, 0, none⟩)] w' fun e w'' => e = .returned (.int .u64 (wd p : Nat)) ∧ Kp w' w'') :
    Calls Tryz.prog 56 #[.func (.func 77) #[] #[.pointer (some ⟨b0, 0, none⟩), .pointer (some ⟨b1, 0, none⟩)], v] w fun e w' => e = .returned (.tuple #[.string (bs (lenS l) (wbF wd)), .int .i64 (fitE l)]) ∧ Kp w w' := by
  have HL := length_any v l hs w h
  obtain ⟨i0, hi, hz0, hz1, hz2⟩ := info_parts info_u8
  go_enter Tryz.func56, Tryz.ntmps56
  go_wp2_with fail
  refine HL.mono ?_; rintro e w' ⟨rfl, hww⟩; subst hww
  clear HL h hs
  by_cases hf : fitE l = 0
  · have hn := lenS_le l hf
    rw [hf, fit_zero l hf]
    obtain ⟨n, hne⟩ : ∃ n, n = (l.getD 0 noS).size := ⟨_, rfl⟩
    rw [← hne] at hn ⊢
    have HF : Hid (fitE l = 0) := hf
    have HN : Hid (lenS l = n) := by show lenS l = n; rw [fit_zero l hf, hne]
    clear hne hf
    go_wp2_with (at_make; refine wpList_make_own _ rfl _ _ 59 rfl w'.heap.size 5 i0 (.int .u8 0) 1 Tryz.underlying59 hi hz0 hz1 .i64 .i64 _ (n + 8) rfl rfl (by omega) (by rw [hz2]; omega) (by unfold maxLen; omega) (Nat.le_refl _) ?_; intro w0 hown0 hgrow0)
    have hK0 : Kp w' w0 := (Kp.refl w').grown hgrow0 (fun k hk => by cases hk)
    clear hgrow0
    go_loopw [8, 9] (fun v i wr => ∃ k : Nat, 8 * k ≤ n + 7 ∧ i = .int .i64 (8 * k : Nat) ∧ v = .slice (some ⟨w'.heap.size, 0, none⟩) (8 * k) (n + 8) ∧ wr.ownsRow w'.heap.size 5 1 (.slice (some ⟨w'.heap.size, 0, none⟩) (8 * k) (n + 8)) (8 * k) ((List.range (8 * k)).map fun i => Value.int .u8 ((wbF wd i : Nat) : Int)) ∧ Kp w' wr) (fun _ i _ => n + 8 - (intOf i).toNat)
    case atStart => exact ⟨0, by omega, rfl, rfl, hown0, hK0⟩
    case round =>
      obtain ⟨k, hk, rfl, rfl, hown, hK⟩ := hrel
      clear hown0 hK0
      by_cases hlt : 8 * k < n
      · have hw := hwd (8 * k)
        have HC : Hid (byteCells (strOfNums (stL (wd (8 * k)))) = (List.range 8).map fun j => Value.int .u8 ((wbF wd (8 * k + j) : Nat) : Int)) := word_cells wd k
        have HW := hword wr hK (8 * k) (by omega)
        clear hword
        obtain ⟨X, hX⟩ : ∃ X, X = wd (8 * k) := ⟨_, rfl⟩
        rw [← hX] at hw HC HW
        clear hX
        go_wp2_with fail
        refine HW.mono ?_; rintro e w1 ⟨rfl, hK1⟩
        have hown1 := ownsRow_kp hown hK1
        have hK1' := hK.trans hK1
        clear HW hown hK hK1
        go_wp2_with fail
        refine (store_any X hw w1).mono ?_; rintro e w2 ⟨rfl, hw2⟩
        have hT := word_size X
        obtain ⟨T, hTe⟩ : ∃ T, T = strOfNums (stL X) := ⟨_, rfl⟩
        rw [← hTe] at HC hT ⊢
        clear hTe
        have hown2 : w2.ownsRow w'.heap.size 5 1 (.slice (some ⟨w'.heap.size, 0, none⟩) (8 * k) (n + 8)) (8 * k) ((List.range (8 * k)).map fun i => Value.int .u8 ((wbF wd i : Nat) : Int)) := by rw [hw2]; exact hown1.alloc _
        have hK2 : Kp w' w2 := by rw [hw2]; exact hK1'.alloc _
        clear hw2 hown1 hK1'
        go_wp2_with (at_builtin; refine wpList_append_fits_str _ rfl _ _ 59 9 rfl w'.heap.size 5 i0 Tryz.underlying59 Tryz.underlying9 hi hz1 w'.heap.size (8 * k) (n + 8) _ rfl hown2 T rfl (by omega) ?_; intro w3 hown3 hgrow3)
        rw [HC.out, cells_step, hT] at hown3
        have hK3 : Kp w' w3 := hK2.grown hgrow3 (fun k hk => by cases hk; exact Nat.le_refl _)
        clear hgrow3 hown2 hK2 HC
        go_roundw
        case rel => exact ⟨k + 1, by omega, by go_num, by first | rfl | (congr 1; omega), hown3, hK3⟩
        case measure => simp [intOf]; omega
      · have hcv := convert_owned (P := Tryz.prog) (m := n) 59 9 Tryz.underlying59 Tryz.underlying5 Tryz.underlying9 hown (by omega) (n + 8)
        clear hword hown
        go_wp2
        go_ret2
        exact ⟨by rw [HF.out, HN.out]; rfl, hK⟩
  · have hb : ((fitE l) != 0) = true := by simp [hf]
    rw [fit_not l hf]
    have HN : Hid (lenS l = 0) := fit_not l hf
    clear hword
    go_wp2
    go_ret2
    exact ⟨by rw [HN.out]; rfl, Kp.refl _⟩

end Go.Proofs.YtbcmgogfpboibaaGreatDoor
