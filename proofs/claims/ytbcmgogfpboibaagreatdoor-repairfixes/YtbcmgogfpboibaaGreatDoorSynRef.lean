/-
  The document's Power, Make, Delta, Fits (layer 4), as called, and the laws' function wakes. Conditions: the arguments' own kinds, and that a list's cells hold the texts.
-/
import Derived.Test.YtbcmgogfpboibaaGreatDoorSynCalls
import Derived.WalkKit
namespace Go.Proofs.YtbcmgogfpboibaaGreatDoor
open Go.RowKit Plain Go.BigFrame

theorem rfold2 (x : ByteArray) (c : Nat) (hc : c < 256) (y : ByteArray) (hx : x.size ≤ 65536) (hy : y.size = x.size) (w : World) :
    Calls Tryz.prog 49 #[.string x, .int .u8 c, .string y] w fun e w' => e = .returned (.tuple #[.string (foldS x c y), .int .i64 0]) ∧ Kp w w' := by
  have H := rfold_any x (ml65 hx) c hc y (ml65 (by omega)) w
  rw [res_ok (fit_pair hx hy), fit_pair hx hy] at H
  exact H

set_option maxRecDepth 100000 in
set_option maxHeartbeats 2000000 in
theorem rpower_in (n : Nat) (hn : n < 30) (w : World) : Calls Tryz.prog 46 #[.int .i64 (n : Int)] w fun e w' => e = .returned (.int .u8 (pw n : Nat)) ∧ Kp w w' := by
  go_enter Tryz.func46, Tryz.ntmps46
  go_wp2
  go_loopw [3, 4] (fun x i wr => ∃ k : Nat, k ≤ n ∧ i = .int .i64 k ∧ x = .int .u8 (pw k : Nat) ∧ Kp w wr) (fun _ i _ => n - (intOf i).toNat)
  case atStart => exact ⟨0, by omega, rfl, rfl, Kp.refl w⟩
  case round =>
    obtain ⟨k, hk, rfl, rfl, hK⟩ := hrel
    by_cases hlt : k < n
    · have hS := rmul_any (pw k) 2 (pw_lt k) (by omega) wr
      rw [← pw_succ] at hS
      obtain ⟨x, hx⟩ : ∃ x, x = pw k := ⟨_, rfl⟩
      rw [← hx] at hS ⊢
      clear hx
      obtain ⟨y, hy⟩ : ∃ y, y = pw (k + 1) := ⟨_, rfl⟩
      rw [← hy] at hS
      have HY : Hid (y = pw (k + 1)) := hy
      clear hy
      go_wp2_with (go_at_call 48; refine hS.mono ?_; rintro e w2 ⟨rfl, k2⟩)
      go_roundw
      case rel => exact ⟨k + 1, by omega, by go_num, by rw [HY.out], hK.trans k2⟩
      case measure => simp [intOf] <;> omega
    · obtain rfl : k = n := by omega
      go_wp2
      go_ret
      exact ⟨rfl, hK⟩
set_option maxHeartbeats 2000000 in
theorem rpower_any (i : Int) (h1 : -9223372036854775808 ≤ i) (h2 : i ≤ 9223372036854775807) (w : World) : Calls Tryz.prog 46 #[.int .i64 i] w fun e w' => e = .returned (.int .u8 (pwI i : Nat)) ∧ Kp w w' := by
  by_cases h : 0 ≤ i ∧ i < 30
  · obtain ⟨k, rfl⟩ : ∃ k : Nat, (k : Int) = i := ⟨i.toNat, by omega⟩
    rw [pwI_in k (by omega)]
    exact rpower_in k (by omega) w
  · rw [pwI_out h]
    by_cases hn : i < 0
    · go_enter Tryz.func46, Tryz.ntmps46
      go_wp2
      go_ret
      exact ⟨rfl, Kp.refl _⟩
    · have hn2 : 30 ≤ i := by omega
      have hn3 : 0 ≤ i := by omega
      clear h hn
      go_enter Tryz.func46, Tryz.ntmps46
      go_wp2
      go_ret
      exact ⟨rfl, Kp.refl _⟩

set_option maxHeartbeats 2000000 in
theorem rmake_few (a : Option Addr) (len cap : Nat) (h : len < 2) (w : World) : Calls Tryz.prog 31 #[.slice a len cap] w fun e w' => e = .returned (.tuple #[.string noS, .string noS, .int .i64 3]) ∧ Kp w w' := by
  go_enter Tryz.func31, Tryz.ntmps31
  go_wp2
  go_ret3
  exact ⟨rfl, Kp.refl _⟩
set_option maxHeartbeats 2000000 in
theorem rmake_many (a : Option Addr) (len cap : Nat) (h : 30 < len) (w : World) : Calls Tryz.prog 31 #[.slice a len cap] w fun e w' => e = .returned (.tuple #[.string noS, .string noS, .int .i64 3]) ∧ Kp w w' := by
  go_enter Tryz.func31, Tryz.ntmps31
  go_wp2
  go_ret3
  exact ⟨rfl, Kp.refl _⟩
theorem getD_mem {l : List ByteArray} {i : Nat} (h : i < l.length) : l.getD i noS ∈ l := by
  rw [List.getD_eq_getElem?_getD, List.getElem?_eq_getElem h]; exact List.getElem_mem _

set_option maxRecDepth 100000 in
set_option maxHeartbeats 8000000 in
theorem rmake_ok (b off cap n : Nat) (l : List ByteArray) (h2 : 2 ≤ l.length) (h30 : l.length ≤ 30) (_h1 : l.length ≤ cap) (hn : n ≤ 65536) (hall : ∀ s ∈ l, s.size = n) (w : World) (hc : ∀ i, i < l.length → w.cell? ⟨b, off + i, none⟩ = some (.string (l.getD i noS)))
    (hF : Calls Tryz.prog 29 #[.slice (some ⟨b, off, none⟩) l.length cap] w fun e w' => e = .returned (.int .i64 0) ∧ Kp w w') :
    Calls Tryz.prog 31 #[.slice (some ⟨b, off, none⟩) l.length cap] w fun e w' => e = .returned (.tuple #[.string (parS n l), .string (refQ 0 (zs n) l), .int .i64 0]) ∧ Kp w w' := by
  obtain ⟨i0, hi, hz0, hz1, hz2⟩ := info_parts info_u8
  obtain ⟨s0, hs0⟩ : ∃ s, s = l.getD 0 noS := ⟨_, rfl⟩
  have hc0 : w.cell? ⟨b, off, none⟩ = some (.string s0) := by rw [hs0]; exact hc 0 (by omega)
  have hs : s0.size = n := by rw [hs0]; exact hall _ (getD_mem (by omega))
  clear hs0
  go_enter Tryz.func31, Tryz.ntmps31
  go_wp2_with fail
  refine hF.mono ?_; rintro e w2 ⟨rfl, k2⟩
  have hc2 := k2.held hc0
  go_wp2_with (at_make; refine wpList_make_full _ rfl _ _ 59 rfl w2.heap.size 5 i0 (.int .u8 0) 1 Tryz.underlying59 hi hz0 hz1 .i64 .i64 _ _ n rfl rfl (by omega) (by omega) (by rw [hz2]; omega) (by unfold maxLen; omega) (Nat.le_refl _) ?_; intro w0 hown0 hgrow0; have hcv := made_text (P := Tryz.prog) 59 9 Tryz.underlying59 Tryz.underlying5 Tryz.underlying9 hown0)
  have K0 : Kp w w0 := k2.trans ((Kp.refl w2).grown (by assumption) (fun k hk => by cases hk))
  clear hown0 hgrow0 hcv hc2 hF k2
  go_loopw [6, 7, 8] (fun p q i wr => ∃ k : Nat, k ≤ l.length ∧ i = .int .i64 k ∧ p = .string (parS n (l.take k)) ∧ q = .string (refQ 0 (zs n) (l.take k)) ∧ Kp w wr) (fun _ _ i _ => l.length - (intOf i).toNat)
  case atStart => exact ⟨0, by omega, rfl, rfl, rfl, K0⟩
  case round =>
    obtain ⟨k, hk, rfl, rfl, rfl, hK⟩ := hrel
    by_cases hlt : k < l.length
    · have htake : ∀ s ∈ l.take k, s.size = n := fun s hs => hall s (List.mem_of_mem_take hs)
      have hck := hK.held (hc k hlt)
      have hsz := hall _ (getD_mem hlt)
      have hP := fun w' => rpower_in k (by omega) w'
      have hA := fun w' => rfold2 (parS n (l.take k)) 1 (by omega) (l.getD k noS) (by rw [parS_size n _ htake]; exact hn) (by rw [parS_size n _ htake]; exact hsz) w'
      have hB := fun w' => rfold2 (refQ 0 (zs n) (l.take k)) (pw k) (pw_lt k) (l.getD k noS) (by rw [refQ_size n _ _ _ (zs_size n) htake]; exact hn) (by rw [refQ_size n _ _ _ (zs_size n) htake]; exact hsz) w'
      rw [← parS_take n l k hlt] at hA
      rw [← refQ_take l (zs n) k hlt] at hB
      obtain ⟨s, hse⟩ : ∃ s, s = l.getD k noS := ⟨_, rfl⟩
      obtain ⟨p, hpe⟩ : ∃ p, p = parS n (l.take k) := ⟨_, rfl⟩
      obtain ⟨q, hqe⟩ : ∃ q, q = refQ 0 (zs n) (l.take k) := ⟨_, rfl⟩
      obtain ⟨p', hpe'⟩ : ∃ p, p = parS n (l.take (k + 1)) := ⟨_, rfl⟩
      obtain ⟨q', hqe'⟩ : ∃ q, q = refQ 0 (zs n) (l.take (k + 1)) := ⟨_, rfl⟩
      rw [← hse] at hck hA hB
      rw [← hpe, ← hpe'] at hA
      rw [← hqe, ← hqe'] at hB
      rw [← hpe, ← hqe]
      have H1 : Hid (p' = parS n (l.take (k + 1))) := hpe'
      have H2 : Hid (q' = refQ 0 (zs n) (l.take (k + 1))) := hqe'
      clear hse hpe hqe hpe' hqe' htake hsz hc0 hs
      go_wp2_with fail
      refine (hP wr).mono ?_; rintro e w4 ⟨rfl, k4⟩
      have hck4 := k4.held hck
      have K4 := hK.trans k4
      clear hP hck k4
      go_wp2_with fail
      refine (hA w4).mono ?_; rintro e w5 ⟨rfl, k5⟩
      have hck5 := k5.held hck4
      have K5 := K4.trans k5
      clear hA hck4 k5 K4
      go_wp2_with fail
      refine (hB w5).mono ?_; rintro e w6 ⟨rfl, k6⟩
      have K6 := K5.trans k6
      clear hB hck5 k6 K5
      go_wp2
      go_roundw
      case rel => exact ⟨k + 1, by omega, by go_num, by rw [H1.out], by rw [H2.out], K6⟩
      case measure => simp [intOf] <;> omega
    · obtain rfl : k = l.length := by omega
      rw [List.take_length]
      clear hc hall
      go_wp2
      go_ret3
      exact ⟨rfl, hK⟩

set_option maxRecDepth 100000 in
set_option maxHeartbeats 4000000 in
theorem rmake_any (v : Value) (l : List ByteArray) (hs : ∀ i, i < l.length → (l.getD i noS).size ≤ maxLen) (w : World) (h : StrsIn w v l) :
    Calls Tryz.prog 31 #[v] w fun e w' => e = .returned (.tuple #[.string (pS l), .string (qS l), .int .i64 (mkE l)]) ∧ Kp w w' := by
  by_cases hf : l.length < 2
  · have e3 := mk_out (l := l) (.inl hf)
    rw [p_not (by rw [e3]; decide), q_not (by rw [e3]; decide), e3]
    cases h with
    | empty a cap h => exact rmake_few a 0 cap hf w
    | some b off cap l h0 h1 h2 hc => exact rmake_few _ _ cap hf w
  by_cases hm : 30 < l.length
  · have e3 := mk_out (l := l) (.inr hm)
    rw [p_not (by rw [e3]; decide), q_not (by rw [e3]; decide), e3]
    cases h with
    | empty a cap h => exact rmake_many a 0 cap hm w
    | some b off cap l h0 h1 h2 hc => exact rmake_many _ _ cap hm w
  have hA := fit_any v l hs w h
  have e0 := mk_in (l := l) (by omega) (by omega)
  by_cases hok : fitE l = 0
  · have hm0 : mkE l = 0 := by rw [e0, hok]
    rw [hm0, q_ok hm0, p_ok hm0, ← wgt_ref _ l (fit_all hok)]
    rw [hok] at hA
    cases h with
    | empty a cap h => exact absurd hf (by simp)
    | some b off cap l h0 h1 h2 hc => exact rmake_ok b off cap _ l (by omega) (by omega) h1 ((fit_is l hok).1 0 h0) (fit_all hok) w hc hA
  · have hm0 : mkE l ≠ 0 := by rw [e0]; exact hok
    rw [← ret3 l hm0, e0]
    obtain ⟨E, hE⟩ : ∃ E, E = fitE l := ⟨_, rfl⟩
    rw [← hE] at hA hok ⊢
    cases h with
    | empty a cap h => exact absurd hf (by simp)
    | some b off cap l h0 h1 h2 hc =>
      obtain ⟨len, hl⟩ : ∃ len, len = l.length := ⟨_, rfl⟩
      rw [← hl] at hA hf hm h1 ⊢
      clear hs hc hE h0 e0 hm0 hl
      have hf2 : 2 ≤ len := by omega
      have hm2 : len ≤ 30 := by omega
      clear hf hm
      have hEn : (E == 0) = false := by rw [beq_eq_false_iff_ne]; exact hok
      go_enter Tryz.func31, Tryz.ntmps31
      go_wp2_with fail
      refine hA.mono ?_; rintro e w2 ⟨rfl, k2⟩
      go_wp2
      go_ret3
      exact ⟨rfl, k2⟩

/-! ### the laws' wakes -/
theorem wk_p : pS [⟨#[1]⟩, ⟨#[1]⟩, ⟨#[1]⟩] = ⟨#[1]⟩ := by decide +kernel
theorem wk_q : qS [⟨#[1]⟩, ⟨#[1]⟩, ⟨#[1]⟩] = ⟨#[7]⟩ := by decide +kernel
theorem wk_e : mkE [⟨#[1]⟩, ⟨#[1]⟩, ⟨#[1]⟩] = 0 := by decide +kernel
theorem wk_w : pwI 8 = 29 := by decide +kernel
theorem wk_f : fitsB [⟨#[1]⟩, ⟨#[1]⟩, ⟨#[1]⟩] ⟨#[1]⟩ ⟨#[7]⟩ = true := by unfold fitsB; rw [wk_e, wk_p, wk_q]; simp
theorem small3 {x y z : ByteArray} (hx : x.size ≤ maxLen) (hy : y.size ≤ maxLen) (hz : z.size ≤ maxLen) : ∀ i, i < [x, y, z].length → ([x, y, z].getD i noS).size ≤ maxLen := fun i hi => by
  have h : i = 0 ∨ i = 1 ∨ i = 2 := by simp at hi; omega
  rcases h with rfl | rfl | rfl
  · exact hx
  · exact hy
  · exact hz
theorem one_small : (ByteArray.mk #[1]).size ≤ maxLen := by
  show 1 ≤ maxLen
  unfold maxLen; omega

end Go.Proofs.YtbcmgogfpboibaaGreatDoor
