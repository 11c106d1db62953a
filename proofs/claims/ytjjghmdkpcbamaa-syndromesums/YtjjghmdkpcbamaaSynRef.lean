/-
  The document's Power, Make, Delta, Fits (layer 4), as called, and the laws' function wakes. Conditions: the arguments' own kinds, and that a list's cells hold the texts.
-/
import Derived.Test.YtjjghmdkpcbamaaSynCalls
import Derived.WalkKit
namespace Go.Proofs.Ytjjghmdkpcbamaa
open Go.RowKit Plain Go.BigFrame

theorem rfold2 (x : ByteArray) (c : Nat) (hc : c < 256) (y : ByteArray) (hx : x.size ≤ 65536) (hy : y.size = x.size) (w : World) :
    Calls Try.prog 22 #[.string x, .int .u8 c, .string y] w fun e w' => e = .returned (.tuple #[.string (foldS x c y), .int .i64 0]) ∧ Kp w w' := by
  have H := rfold_any x (ml65 hx) c hc y (ml65 (by omega)) w
  rw [res_ok (fit_pair hx hy), fit_pair hx hy] at H
  exact H

set_option maxRecDepth 100000 in
set_option maxHeartbeats 2000000 in
theorem rpower_in (n : Nat) (hn : n < 30) (w : World) : Calls Try.prog 14 #[.int .i64 (n : Int)] w fun e w' => e = .returned (.int .u8 (pw n : Nat)) ∧ Kp w w' := by
  go_enter Try.func14, Try.ntmps14
  go_wp2
  go_loopw [3, 4] (fun x i wr => ∃ k : Nat, k ≤ n ∧ i = .int .i64 k ∧ x = .int .u8 (pw k : Nat) ∧ Kp w wr) (fun _ i _ => n - (intOf i).toNat)
  case atStart => exact ⟨0, by omega, rfl, rfl, Kp.refl w⟩
  case round =>
    obtain ⟨k, hk, rfl, rfl, hK⟩ := hrel
    by_cases hlt : k < n
    · have hS := rmul_any (pw k) 2 (pw_lt k) (by omega) wr
      rw [← pw_succ] at hS
      obtain ⟨x, hx⟩ : ∃ x, x = pw k := ⟨_, rfl⟩
      rw [← hx] at hS ⊢
      clear hx
      obtain ⟨y, hy⟩ : ∃ y, y = pw (k + 1) := ⟨_, rfl⟩
      rw [← hy] at hS
      have HY : Hid (y = pw (k + 1)) := hy
      clear hy
      go_wp2_with (go_at_call 24; refine hS.mono ?_; rintro e w2 ⟨rfl, k2⟩)
      go_roundw
      case rel => exact ⟨k + 1, by omega, by go_num, by rw [HY.out], hK.trans k2⟩
      case measure => simp [intOf] <;> omega
    · obtain rfl : k = n := by omega
      go_wp2
      go_ret
      exact ⟨rfl, hK⟩
set_option maxHeartbeats 2000000 in
theorem rpower_any (i : Int) (h1 : -9223372036854775808 ≤ i) (h2 : i ≤ 9223372036854775807) (w : World) : Calls Try.prog 14 #[.int .i64 i] w fun e w' => e = .returned (.int .u8 (pwI i : Nat)) ∧ Kp w w' := by
  by_cases h : 0 ≤ i ∧ i < 30
  · obtain ⟨k, rfl⟩ : ∃ k : Nat, (k : Int) = i := ⟨i.toNat, by omega⟩
    rw [pwI_in k (by omega)]
    exact rpower_in k (by omega) w
  · rw [pwI_out h]
    by_cases hn : i < 0
    · go_enter Try.func14, Try.ntmps14
      go_wp2
      go_ret
      exact ⟨rfl, Kp.refl _⟩
    · have hn2 : 30 ≤ i := by omega
      have hn3 : 0 ≤ i := by omega
      clear h hn
      go_enter Try.func14, Try.ntmps14
      go_wp2
      go_ret
      exact ⟨rfl, Kp.refl _⟩

set_option maxHeartbeats 2000000 in
theorem rmake_few (a : Option Addr) (len cap : Nat) (h : len < 2) (w : World) : Calls Try.prog 11 #[.slice a len cap] w fun e w' => e = .returned (.tuple #[.string noS, .string noS, .int .i64 3]) ∧ Kp w w' := by
  go_enter Try.func11, Try.ntmps11
  go_wp2
  go_ret3
  exact ⟨rfl, Kp.refl _⟩
set_option maxHeartbeats 2000000 in
theorem rmake_many (a : Option Addr) (len cap : Nat) (h : 30 < len) (w : World) : Calls Try.prog 11 #[.slice a len cap] w fun e w' => e = .returned (.tuple #[.string noS, .string noS, .int .i64 3]) ∧ Kp w w' := by
  go_enter Try.func11, Try.ntmps11
  go_wp2
  go_ret3
  exact ⟨rfl, Kp.refl _⟩
theorem getD_mem {l : List ByteArray} {i : Nat} (h : i < l.length) : l.getD i noS ∈ l := by
  rw [List.getD_eq_getElem?_getD, List.getElem?_eq_getElem h]; exact List.getElem_mem _

set_option maxRecDepth 100000 in
set_option maxHeartbeats 8000000 in
theorem rmake_ok (b off cap n : Nat) (l : List ByteArray) (h2 : 2 ≤ l.length) (h30 : l.length ≤ 30) (_h1 : l.length ≤ cap) (hn : n ≤ 65536) (hall : ∀ s ∈ l, s.size = n) (w : World) (hc : ∀ i, i < l.length → w.cell? ⟨b, off + i, none⟩ = some (.string (l.getD i noS)))
    (hF : Calls Try.prog 21 #[.slice (some ⟨b, off, none⟩) l.length cap] w fun e w' => e = .returned (.int .i64 0) ∧ Kp w w') :
    Calls Try.prog 11 #[.slice (some ⟨b, off, none⟩) l.length cap] w fun e w' => e = .returned (.tuple #[.string (parS n l), .string (refQ 0 (zs n) l), .int .i64 0]) ∧ Kp w w' := by
  obtain ⟨i0, hi, hz0, hz1, hz2⟩ := info_parts info_u8
  obtain ⟨s0, hs0⟩ : ∃ s, s = l.getD 0 noS := ⟨_, rfl⟩
  have hc0 : w.cell? ⟨b, off, none⟩ = some (.string s0) := by rw [hs0]; exact hc 0 (by omega)
  have hs : s0.size = n := by rw [hs0]; exact hall _ (getD_mem (by omega))
  clear hs0
  go_enter Try.func11, Try.ntmps11
  go_wp2_with fail
  refine hF.mono ?_; rintro e w2 ⟨rfl, k2⟩
  have hc2 := k2.held hc0
  go_wp2_with (at_make; refine wpList_make_full _ rfl _ _ 40 rfl w2.heap.size 5 i0 (.int .u8 0) 1 Try.underlying40 hi hz0 hz1 .i64 .i64 _ _ n rfl rfl (by omega) (by omega) (by rw [hz2]; omega) (by unfold maxLen; omega) (Nat.le_refl _) ?_; intro w0 hown0 hgrow0; have hcv := made_text (P := Try.prog) 40 9 Try.underlying40 Try.underlying5 Try.underlying9 hown0)
  have K0 : Kp w w0 := k2.trans ((Kp.refl w2).grown (by assumption) (fun k hk => by cases hk))
  clear hown0 hgrow0 hcv hc2 hF k2
  go_loopw [6, 7, 8] (fun p q i wr => ∃ k : Nat, k ≤ l.length ∧ i = .int .i64 k ∧ p = .string (parS n (l.take k)) ∧ q = .string (refQ 0 (zs n) (l.take k)) ∧ Kp w wr) (fun _ _ i _ => l.length - (intOf i).toNat)
  case atStart => exact ⟨0, by omega, rfl, rfl, rfl, K0⟩
  case round =>
    obtain ⟨k, hk, rfl, rfl, rfl, hK⟩ := hrel
    by_cases hlt : k < l.length
    · have htake : ∀ s ∈ l.take k, s.size = n := fun s hs => hall s (List.mem_of_mem_take hs)
      have hck := hK.held (hc k hlt)
      have hsz := hall _ (getD_mem hlt)
      have hP := fun w' => rpower_in k (by omega) w'
      have hA := fun w' => rfold2 (parS n (l.take k)) 1 (by omega) (l.getD k noS) (by rw [parS_size n _ htake]; exact hn) (by rw [parS_size n _ htake]; exact hsz) w'
      have hB := fun w' => rfold2 (refQ 0 (zs n) (l.take k)) (pw k) (pw_lt k) (l.getD k noS) (by rw [refQ_size n _ _ _ (zs_size n) htake]; exact hn) (by rw [refQ_size n _ _ _ (zs_size n) htake]; exact hsz) w'
      rw [← parS_take n l k hlt] at hA
      rw [← refQ_take l (zs n) k hlt] at hB
      obtain ⟨s, hse⟩ : ∃ s, s = l.getD k noS := ⟨_, rfl⟩
      obtain ⟨p, hpe⟩ : ∃ p, p = parS n (l.take k) := ⟨_, rfl⟩
      obtain ⟨q, hqe⟩ : ∃ q, q = refQ 0 (zs n) (l.take k) := ⟨_, rfl⟩
      obtain ⟨p', hpe'⟩ : ∃ p, p = parS n (l.take (k + 1)) := ⟨_, rfl⟩
      obtain ⟨q', hqe'⟩ : ∃ q, q = refQ 0 (zs n) (l.take (k + 1)) := ⟨_, rfl⟩
      rw [← hse] at hck hA hB
      rw [← hpe, ← hpe'] at hA
      rw [← hqe, ← hqe'] at hB
      rw [← hpe, ← hqe]
      have H1 : Hid (p' = parS n (l.take (k + 1))) := hpe'
      have H2 : Hid (q' = refQ 0 (zs n) (l.take (k + 1))) := hqe'
      clear hse hpe hqe hpe' hqe' htake hsz hc0 hs
      go_wp2_with fail
      refine (hP wr).mono ?_; rintro e w4 ⟨rfl, k4⟩
      have hck4 := k4.held hck
      have K4 := hK.trans k4
      clear hP hck k4
      go_wp2_with fail
      refine (hA w4).mono ?_; rintro e w5 ⟨rfl, k5⟩
      have hck5 := k5.held hck4
      have K5 := K4.trans k5
      clear hA hck4 k5 K4
      go_wp2_with fail
      refine (hB w5).mono ?_; rintro e w6 ⟨rfl, k6⟩
      have K6 := K5.trans k6
      clear hB hck5 k6 K5
      go_wp2
      go_roundw
      case rel => exact ⟨k + 1, by omega, by go_num, by rw [H1.out], by rw [H2.out], K6⟩
      case measure => simp [intOf] <;> omega
    · obtain rfl : k = l.length := by omega
      rw [List.take_length]
      clear hc hall
      go_wp2
      go_ret3
      exact ⟨rfl, hK⟩

set_option maxRecDepth 100000 in
set_option maxHeartbeats 4000000 in
theorem rmake_any (v : Value) (l : List ByteArray) (hs : ∀ i, i < l.length → (l.getD i noS).size ≤ maxLen) (w : World) (h : StrsIn w v l) :
    Calls Try.prog 11 #[v] w fun e w' => e = .returned (.tuple #[.string (pS l), .string (qS l), .int .i64 (mkE l)]) ∧ Kp w w' := by
  by_cases hf : l.length < 2
  · have e3 := mk_out (l := l) (.inl hf)
    rw [p_not (by rw [e3]; decide), q_not (by rw [e3]; decide), e3]
    cases h with
    | empty a cap h => exact rmake_few a 0 cap hf w
    | some b off cap l h0 h1 h2 hc => exact rmake_few _ _ cap hf w
  by_cases hm : 30 < l.length
  · have e3 := mk_out (l := l) (.inr hm)
    rw [p_not (by rw [e3]; decide), q_not (by rw [e3]; decide), e3]
    cases h with
    | empty a cap h => exact rmake_many a 0 cap hm w
    | some b off cap l h0 h1 h2 hc => exact rmake_many _ _ cap hm w
  have hA := fit_any v l hs w h
  have e0 := mk_in (l := l) (by omega) (by omega)
  by_cases hok : fitE l = 0
  · have hm0 : mkE l = 0 := by rw [e0, hok]
    rw [hm0, q_ok hm0, p_ok hm0, ← wgt_ref _ l (fit_all hok)]
    rw [hok] at hA
    cases h with
    | empty a cap h => exact absurd hf (by simp)
    | some b off cap l h0 h1 h2 hc => exact rmake_ok b off cap _ l (by omega) (by omega) h1 ((fit_is l hok).1 0 h0) (fit_all hok) w hc hA
  · have hm0 : mkE l ≠ 0 := by rw [e0]; exact hok
    rw [← ret3 l hm0, e0]
    obtain ⟨E, hE⟩ : ∃ E, E = fitE l := ⟨_, rfl⟩
    rw [← hE] at hA hok ⊢
    cases h with
    | empty a cap h => exact absurd hf (by simp)
    | some b off cap l h0 h1 h2 hc =>
      obtain ⟨len, hl⟩ : ∃ len, len = l.length := ⟨_, rfl⟩
      rw [← hl] at hA hf hm h1 ⊢
      clear hs hc hE h0 e0 hm0 hl
      have hf2 : 2 ≤ len := by omega
      have hm2 : len ≤ 30 := by omega
      clear hf hm
      have hEn : (E == 0) = false := by rw [beq_eq_false_iff_ne]; exact hok
      go_enter Try.func11, Try.ntmps11
      go_wp2_with fail
      refine hA.mono ?_; rintro e w2 ⟨rfl, k2⟩
      go_wp2
      go_ret3
      exact ⟨rfl, k2⟩

set_option maxRecDepth 100000 in
set_option maxHeartbeats 2000000 in
theorem rfits_any (v : Value) (l : List ByteArray) (hs : ∀ i, i < l.length → (l.getD i noS).size ≤ maxLen) (p q : ByteArray) (w : World) (h : StrsIn w v l) :
    Calls Try.prog 18 #[v, .string p, .string q] w fun e w' => e = .returned (.bool (fitsB l p q)) ∧ Kp w w' := by
  have hM := rmake_any v l hs w h
  unfold fitsB
  obtain ⟨E, hE⟩ : ∃ E, E = mkE l := ⟨_, rfl⟩
  obtain ⟨P, hP⟩ : ∃ P, P = pS l := ⟨_, rfl⟩
  obtain ⟨Q, hQ⟩ : ∃ Q, Q = qS l := ⟨_, rfl⟩
  rw [← hE, ← hP, ← hQ] at hM ⊢
  clear hE hP hQ hs
  rw [show (p.toList == P.toList) = (P.toList == p.toList) from BEq.comm, show (q.toList == Q.toList) = (Q.toList == q.toList) from BEq.comm]
  have key : ∀ v, (∃ a n c, v = .slice a n c) → Calls Try.prog 11 #[v] w (fun e w' => e = .returned (.tuple #[.string P, .string Q, .int .i64 E]) ∧ Kp w w') → Calls Try.prog 18 #[v, .string p, .string q] w fun e w' => e = .returned (.bool ((E == 0) && ((P.toList == p.toList) && (Q.toList == q.toList)))) ∧ Kp w w' := by
    rintro v ⟨a, n, c, rfl⟩ hM
    go_enter Try.func18, Try.ntmps18
    go_wp2_with fail
    refine hM.mono ?_; rintro e w2 ⟨rfl, k2⟩
    go_wp2
    all_goals (go_ret; refine ⟨?_, k2⟩)
    all_goals simp_all
  cases h with
  | empty a cap h => exact key _ ⟨_, _, _, rfl⟩ hM
  | some b off cap l h0 h1 h2 hc => exact key _ ⟨_, _, _, rfl⟩ hM

set_option maxHeartbeats 2000000 in
theorem rdelta_out (p q o n : ByteArray) (i : Int) (h : ¬ (0 ≤ i ∧ i < 30)) (w : World) : Calls Try.prog 16 #[.string p, .string q, .int .i64 i, .string o, .string n] w fun e w' => e = .returned (.tuple #[.string noS, .string noS, .int .i64 3]) ∧ Kp w w' := by
  by_cases hn : i < 0
  · go_enter Try.func16, Try.ntmps16
    go_wp2
    go_ret3
    exact ⟨rfl, Kp.refl _⟩
  · have hn2 : 30 ≤ i := by omega
    have hn3 : 0 ≤ i := by omega
    clear h hn
    go_enter Try.func16, Try.ntmps16
    go_wp2
    go_ret3
    exact ⟨rfl, Kp.refl _⟩
set_option maxRecDepth 100000 in
set_option maxHeartbeats 4000000 in
theorem rdelta_any (p q o n : ByteArray) (hp : p.size ≤ maxLen) (hq : q.size ≤ maxLen) (ho : o.size ≤ maxLen) (hn : n.size ≤ maxLen) (i : Int) (w : World) :
    Calls Try.prog 16 #[.string p, .string q, .int .i64 i, .string o, .string n] w fun e w' => e = .returned (.tuple #[.string (dlP i p q o n), .string (dlQ i p q o n), .int .i64 (dlE i [p, q, o, n])]) ∧ Kp w w' := by
  by_cases hi : 0 ≤ i ∧ i < 30
  case neg =>
    have e3 := dl_out hi [p, q, o, n]
    unfold dlP dlQ
    rw [e3, if_neg (by decide), if_neg (by decide)]
    exact rdelta_out p q o n i hi w
  have hA := fit_any _ [p, q, o, n] (small4 hp hq ho hn) _ (StrsIn.lit4 w p q o n 9)
  have K1 : Kp w (w.alloc (.cells #[.string p, .string q, .string o, .string n] 9)) := (Kp.refl w).alloc _
  have e0 := dl_in hi [p, q, o, n]
  unfold dlP dlQ
  rw [e0]
  have hi1 := hi.1
  have hi2 := hi.2
  clear hi e0
  by_cases hok : fitE [p, q, o, n] = 0
  · rw [if_pos hok, if_pos hok, hok]
    rw [hok] at hA
    obtain ⟨s1, s2, s3, s4⟩ := fit_four hok
    clear hok
    rw [← fold_twice p o n 1 (by omega) (by omega), ← fold_twice q o n (pwI i) (pwI_lt i) (by omega)]
    have hP := fun w' => rpower_any i (by omega) (by omega) w'
    have hF1 := fun w' => rfold2 p 1 (by omega) o s1 s3 w'
    have hF2 := fun w' => rfold2 (foldS p 1 o) 1 (by omega) n (by rw [foldS_size]; omega) (by rw [foldS_size]; omega) w'
    have hF3 := fun w' => rfold2 q (pwI i) (pwI_lt i) o (by omega) (by omega) w'
    have hF4 := fun w' => rfold2 (foldS q (pwI i) o) (pwI i) (pwI_lt i) n (by rw [foldS_size]; omega) (by rw [foldS_size]; omega) w'
    obtain ⟨c, hc⟩ : ∃ c, c = pwI i := ⟨_, rfl⟩
    rw [← hc] at hP hF3 hF4 ⊢
    obtain ⟨A, hA1⟩ : ∃ A, A = foldS p 1 o := ⟨_, rfl⟩
    rw [← hA1] at hF1 hF2 ⊢
    obtain ⟨B, hB1⟩ : ∃ A, A = foldS q c o := ⟨_, rfl⟩
    rw [← hB1] at hF3 hF4 ⊢
    clear hp hq ho hn s1 s2 s3 s4 hc hA1 hB1
    go_enter Try.func16, Try.ntmps16
    go_wp2_with fail
    refine hA.mono ?_; rintro e w2 ⟨rfl, k2⟩
    have K2 := K1.trans k2
    clear hA K1 k2
    go_wp2_with fail
    refine (hP w2).mono ?_; rintro e w3 ⟨rfl, k3⟩
    have K3 := K2.trans k3
    clear hP K2 k3
    go_wp2_with fail
    refine (hF1 w3).mono ?_; rintro e w4 ⟨rfl, k4⟩
    have K4 := K3.trans k4
    clear hF1 K3 k4
    go_wp2_with fail
    refine (hF2 w4).mono ?_; rintro e w5 ⟨rfl, k5⟩
    have K5 := K4.trans k5
    clear hF2 K4 k5
    go_wp2_with fail
    refine (hF3 w5).mono ?_; rintro e w6 ⟨rfl, k6⟩
    have K6 := K5.trans k6
    clear hF3 K5 k6
    go_wp2_with fail
    refine (hF4 w6).mono ?_; rintro e w7 ⟨rfl, k7⟩
    have K7 := K6.trans k7
    go_wp2
    go_ret3
    exact ⟨rfl, K7⟩
  · rw [if_neg hok, if_neg hok]
    obtain ⟨E, hE⟩ : ∃ E, E = fitE [p, q, o, n] := ⟨_, rfl⟩
    rw [← hE] at hA hok ⊢
    have hEn : (E == 0) = false := by rw [beq_eq_false_iff_ne]; exact hok
    clear hE hp hq ho hn
    go_enter Try.func16, Try.ntmps16
    go_wp2_with fail
    refine hA.mono ?_; rintro e w2 ⟨rfl, k2⟩
    go_wp2
    go_ret3
    exact ⟨rfl, K1.trans k2⟩

/-! ### the laws' wakes -/
theorem wk_p : pS [⟨#[1]⟩, ⟨#[1]⟩, ⟨#[1]⟩] = ⟨#[1]⟩ := by decide +kernel
theorem wk_q : qS [⟨#[1]⟩, ⟨#[1]⟩, ⟨#[1]⟩] = ⟨#[7]⟩ := by decide +kernel
theorem wk_e : mkE [⟨#[1]⟩, ⟨#[1]⟩, ⟨#[1]⟩] = 0 := by decide +kernel
theorem wk_w : pwI 8 = 29 := by decide +kernel
theorem wk_f : fitsB [⟨#[1]⟩, ⟨#[1]⟩, ⟨#[1]⟩] ⟨#[1]⟩ ⟨#[7]⟩ = true := by unfold fitsB; rw [wk_e, wk_p, wk_q]; simp
theorem small3 {x y z : ByteArray} (hx : x.size ≤ maxLen) (hy : y.size ≤ maxLen) (hz : z.size ≤ maxLen) : ∀ i, i < [x, y, z].length → ([x, y, z].getD i noS).size ≤ maxLen := fun i hi => by
  have h : i = 0 ∨ i = 1 ∨ i = 2 := by simp at hi; omega
  rcases h with rfl | rfl | rfl
  · exact hx
  · exact hy
  · exact hz
theorem one_small : (ByteArray.mk #[1]).size ≤ maxLen := by
  show 1 ≤ maxLen
  unfold maxLen; omega
set_option maxRecDepth 100000 in
set_option maxHeartbeats 4000000 in
theorem wakes_any (w : World) : Calls Try.prog 12 #[] w fun e w' => e = .returned (.bool true) ∧ Kp w w' := by
  have H1 := make_any _ _ (small3 one_small one_small one_small) _ (StrsIn.lit3 w ⟨#[1]⟩ ⟨#[1]⟩ ⟨#[1]⟩ 9)
  rw [wk_p, wk_q, wk_e] at H1
  have K0 : Kp w (w.alloc (.cells #[.string ⟨#[1]⟩, .string ⟨#[1]⟩, .string ⟨#[1]⟩] 9)) := (Kp.refl w).alloc _
  have H2 := fun w' => power_any 8 (by omega) (by omega) w'
  rw [wk_w] at H2
  have H3 := fun w' => fits_any _ _ (small3 one_small one_small one_small) ⟨#[1]⟩ ⟨#[7]⟩ _ (StrsIn.lit3 w' ⟨#[1]⟩ ⟨#[1]⟩ ⟨#[1]⟩ 9)
  rw [wk_f] at H3
  go_enter Try.func12, Try.ntmps12
  go_wp2_with fail
  refine H1.mono ?_; rintro e w1 ⟨rfl, k1⟩
  have K1 := K0.trans k1
  clear H1 K0 k1
  go_wp2_with fail
  refine (H2 w1).mono ?_; rintro e w2 ⟨rfl, k2⟩
  have K2 := K1.trans k2
  clear H2 K1 k2
  go_wp2_with fail
  refine (H3 w2).mono ?_; rintro e w3 ⟨rfl, k3⟩
  have K3 := (K2.alloc _).trans k3
  clear H3 K2 k3
  go_wp2
  go_ret
  exact ⟨rfl, K3⟩

end Go.Proofs.Ytjjghmdkpcbamaa
