/-
  Contracts of package syndrome: Power, Make, Fits, Delta: as the document words them. Conditions: the arguments' own kinds, and that a list's cells hold the texts.
-/
import Derived.Test.YtjjghmdkpcbamaaSynWgt
namespace Go.Proofs.Ytjjghmdkpcbamaa
open Go.RowKit Plain Go.BigFrame

def b1 (x : Nat) : ByteArray := bs 1 (fun _ => x)
theorem b1_size (x : Nat) : (b1 x).size = 1 := bs_size _ _
theorem b1_at (x : Nat) (h : x < 256) : bAt (b1 x) 0 = x := bAt_bs 1 _ 0 (by omega) h
theorem b1_one : (⟨#[1]⟩ : ByteArray) = b1 (pw 0) := by decide +kernel
theorem b1_scale (k : Nat) : scaleS 2 (b1 (pw k)) = b1 (pw (k + 1)) := by
  apply bs_ext
  · rw [scaleS_size, b1_size, b1_size]
  · intro i hi
    rw [scaleS_size, b1_size] at hi
    obtain rfl : i = 0 := by omega
    rw [scaleS_at 2 (by omega) _ 0 (by rw [b1_size]; omega)]
    show ml 2 (bAt (b1 (pw k)) 0) = bAt (b1 (pw (k + 1))) 0
    rw [b1_at _ (pw_lt _), b1_at _ (pw_lt _), pw_succ, ml_comm 2 _ (by omega) (pw_lt _)]

set_option maxRecDepth 100000 in
set_option maxHeartbeats 2000000 in
theorem power_in (n : Nat) (hn : n < 30) (w : World) : Calls Try.prog 13 #[.int .i64 (n : Int)] w fun e w' => e = .returned (.int .u8 (pw n : Nat)) ∧ Kp w w' := by
  go_enter Try.func13, Try.ntmps13
  go_wp2
  rw [b1_one]
  go_loopw [3, 11] (fun s i wr => ∃ k : Nat, k ≤ n ∧ i = .int .i64 k ∧ s = .string (b1 (pw k)) ∧ Kp w wr) (fun _ i _ => n - (intOf i).toNat)
  case atStart => exact ⟨0, by omega, rfl, rfl, Kp.refl w⟩
  case round =>
    obtain ⟨k, hk, rfl, rfl, hK⟩ := hrel
    by_cases hlt : k < n
    · have hS := scale1 2 (by omega) (b1 (pw k)) (by rw [b1_size]; omega) wr
      rw [b1_scale] at hS
      go_wp2_with (go_at_call 23; refine hS.mono ?_; rintro e w2 ⟨rfl, k2⟩)
      go_roundw
      case rel => exact ⟨k + 1, by omega, by go_num, rfl, hK.trans k2⟩
      case measure => simp [intOf] <;> omega
    · obtain rfl : k = n := by omega
      have hz := b1_size (pw k)
      have hb : ((b1 (pw k))[0]'(by rw [b1_size]; omega)).toNat = pw k := by rw [← bAt_nat]; exact b1_at _ (pw_lt _)
      go_wp2
      go_ret
      exact ⟨rfl, hK⟩

set_option maxHeartbeats 2000000 in
theorem power_any (i : Int) (h1 : -9223372036854775808 ≤ i) (h2 : i ≤ 9223372036854775807) (w : World) : Calls Try.prog 13 #[.int .i64 i] w fun e w' => e = .returned (.int .u8 (pwI i : Nat)) ∧ Kp w w' := by
  by_cases h : 0 ≤ i ∧ i < 30
  · obtain ⟨k, rfl⟩ : ∃ k : Nat, (k : Int) = i := ⟨i.toNat, by omega⟩
    rw [pwI_in k (by omega)]
    exact power_in k (by omega) w
  · rw [pwI_out h]
    by_cases hn : i < 0
    · go_enter Try.func13, Try.ntmps13
      go_wp2
      go_ret
      exact ⟨rfl, Kp.refl _⟩
    · have hn2 : 30 ≤ i := by omega
      have hn3 : 0 ≤ i := by omega
      clear h hn
      go_enter Try.func13, Try.ntmps13
      go_wp2
      go_ret
      exact ⟨rfl, Kp.refl _⟩

theorem ret3 (l : List ByteArray) (h : mkE l ≠ 0) : Ending.returned (.tuple #[.string noS, .string noS, .int .i64 (mkE l)]) = .returned (.tuple #[.string (pS l), .string (qS l), .int .i64 (mkE l)]) := by rw [p_not h, q_not h]
set_option maxHeartbeats 2000000 in
theorem make_few (a : Option Addr) (len cap : Nat) (h : len < 2) (w : World) : Calls Try.prog 10 #[.slice a len cap] w fun e w' => e = .returned (.tuple #[.string noS, .string noS, .int .i64 3]) ∧ Kp w w' := by
  go_enter Try.func10, Try.ntmps10
  go_wp2
  go_ret3
  exact ⟨rfl, Kp.refl _⟩
set_option maxHeartbeats 2000000 in
theorem make_many (a : Option Addr) (len cap : Nat) (h : 30 < len) (w : World) : Calls Try.prog 10 #[.slice a len cap] w fun e w' => e = .returned (.tuple #[.string noS, .string noS, .int .i64 3]) ∧ Kp w w' := by
  go_enter Try.func10, Try.ntmps10
  go_wp2
  go_ret3
  exact ⟨rfl, Kp.refl _⟩
set_option maxRecDepth 100000 in
set_option maxHeartbeats 4000000 in
theorem make_any (v : Value) (l : List ByteArray) (hs : ∀ i, i < l.length → (l.getD i noS).size ≤ maxLen) (w : World) (h : StrsIn w v l) :
    Calls Try.prog 10 #[v] w fun e w' => e = .returned (.tuple #[.string (pS l), .string (qS l), .int .i64 (mkE l)]) ∧ Kp w w' := by
  by_cases hf : l.length < 2
  · have e3 := mk_out (l := l) (.inl hf)
    rw [p_not (by rw [e3]; decide), q_not (by rw [e3]; decide), e3]
    cases h with
    | empty a cap h => exact make_few a 0 cap hf w
    | some b off cap l h0 h1 h2 hc => exact make_few _ _ cap hf w
  by_cases hm : 30 < l.length
  · have e3 := mk_out (l := l) (.inr hm)
    rw [p_not (by rw [e3]; decide), q_not (by rw [e3]; decide), e3]
    cases h with
    | empty a cap h => exact make_many a 0 cap hm w
    | some b off cap l h0 h1 h2 hc => exact make_many _ _ cap hm w
  have hA := add_any v l hs w h
  have e0 := mk_in (l := l) (by omega) (by omega)
  by_cases hok : fitE l = 0
  · have hm0 : mkE l = 0 := by rw [e0, hok]
    rw [res_ok hok, hok, ← p_add hm0] at hA
    rw [hm0, q_ok hm0]
    have hfit := fit_is l hok
    obtain ⟨P, hP⟩ : ∃ P, P = pS l := ⟨_, rfl⟩
    obtain ⟨n, hn⟩ : ∃ n, n = (l.getD 0 noS).size := ⟨_, rfl⟩
    rw [← hn] at hfit ⊢
    rw [← hP] at hA ⊢
    clear hP
    cases h with
    | empty a cap h => exact absurd hf (by simp)
    | some b off cap l h0 h1 h2 hc =>
      have hn6 : n ≤ 65536 := by have := hfit.1 0 h0; omega
      have hW := fun (w' : World) (k : Kp w w') => weighted_any b off cap n l h0 (by omega) h1 h2 hn6 hfit.2 w' (fun i hi => k.held (hc i hi))
      obtain ⟨Q, hQ⟩ : ∃ Q, Q = wgtS n l := ⟨_, rfl⟩
      rw [← hQ] at hW ⊢
      obtain ⟨len, hl⟩ : ∃ len, len = l.length := ⟨_, rfl⟩
      rw [← hl] at hA hW hf hm h1 ⊢
      clear hs hfit hc hn hQ h0 e0 hok hm0 hl
      have hf2 : 2 ≤ len := by omega
      have hm2 : len ≤ 30 := by omega
      clear hf hm
      go_enter Try.func10, Try.ntmps10
      go_wp2_with fail
      refine hA.mono ?_; rintro e w2 ⟨rfl, k2⟩
      go_wp2_with fail
      refine (hW w2 k2).mono ?_; rintro e w3 ⟨rfl, k3⟩
      go_wp2
      go_ret3
      exact ⟨rfl, k2.trans k3⟩
  · have hm0 : mkE l ≠ 0 := by rw [e0]; exact hok
    rw [← ret3 l hm0, e0]
    have hrr : resOf l (addS l) = noS := by unfold resOf; rw [if_neg hok]
    rw [hrr] at hA
    obtain ⟨E, hE⟩ : ∃ E, E = fitE l := ⟨_, rfl⟩
    rw [← hE] at hA hok ⊢
    have hr := fit_range l
    rw [← hE] at hr
    cases h with
    | empty a cap h => exact absurd hf (by simp)
    | some b off cap l h0 h1 h2 hc =>
      obtain ⟨len, hl⟩ : ∃ len, len = l.length := ⟨_, rfl⟩
      rw [← hl] at hA hf hm h1 ⊢
      clear hs hc hE h0 e0 hm0 hl hrr
      have hf2 : 2 ≤ len := by omega
      have hm2 : len ≤ 30 := by omega
      clear hf hm
      have hEn : (E == 0) = false := by rw [beq_eq_false_iff_ne]; exact hok
      go_enter Try.func10, Try.ntmps10
      go_wp2_with fail
      refine hA.mono ?_; rintro e w2 ⟨rfl, k2⟩
      go_wp2
      go_ret3
      exact ⟨rfl, k2⟩

def fitsB (l : List ByteArray) (p q : ByteArray) : Bool := (mkE l == 0) && ((p.toList == (pS l).toList) && (q.toList == (qS l).toList))
set_option maxRecDepth 100000 in
set_option maxHeartbeats 2000000 in
theorem fits_any (v : Value) (l : List ByteArray) (hs : ∀ i, i < l.length → (l.getD i noS).size ≤ maxLen) (p q : ByteArray) (w : World) (h : StrsIn w v l) :
    Calls Try.prog 17 #[v, .string p, .string q] w fun e w' => e = .returned (.bool (fitsB l p q)) ∧ Kp w w' := by
  have hM := make_any v l hs w h
  unfold fitsB
  obtain ⟨E, hE⟩ : ∃ E, E = mkE l := ⟨_, rfl⟩
  obtain ⟨P, hP⟩ : ∃ P, P = pS l := ⟨_, rfl⟩
  obtain ⟨Q, hQ⟩ : ∃ Q, Q = qS l := ⟨_, rfl⟩
  rw [← hE, ← hP, ← hQ] at hM ⊢
  clear hE hP hQ hs
  have key : ∀ v, (∃ a n c, v = .slice a n c) → Calls Try.prog 10 #[v] w (fun e w' => e = .returned (.tuple #[.string P, .string Q, .int .i64 E]) ∧ Kp w w') → Calls Try.prog 17 #[v, .string p, .string q] w fun e w' => e = .returned (.bool ((E == 0) && ((p.toList == P.toList) && (q.toList == Q.toList)))) ∧ Kp w w' := by
    rintro v ⟨a, n, c, rfl⟩ hM
    go_enter Try.func17, Try.ntmps17
    go_wp2_with fail
    refine hM.mono ?_; rintro e w2 ⟨rfl, k2⟩
    go_wp2
    all_goals (go_ret; refine ⟨?_, k2⟩)
    all_goals simp_all
  cases h with
  | empty a cap h => exact key _ ⟨_, _, _, rfl⟩ hM
  | some b off cap l h0 h1 h2 hc => exact key _ ⟨_, _, _, rfl⟩ hM

theorem StrsIn.lit4 (w : World) (x y z u : ByteArray) (t : TypeId) : StrsIn (w.alloc (.cells #[.string x, .string y, .string z, .string u] t)) (.slice (Option.some ⟨w.heap.size, 0, none⟩) 4 4) [x, y, z, u] :=
  .some w.heap.size 0 4 [x, y, z, u] (by simp) (by simp) (by unfold maxLen; omega) (fun i hi => by
    have h : i = 0 ∨ i = 1 ∨ i = 2 ∨ i = 3 := by simp at hi; omega
    rcases h with rfl | rfl | rfl | rfl <;> (rw [World.cell?_alloc_at _ _ _ _ rfl]; rfl))
theorem StrsIn.lit3 (w : World) (x y z : ByteArray) (t : TypeId) : StrsIn (w.alloc (.cells #[.string x, .string y, .string z] t)) (.slice (Option.some ⟨w.heap.size, 0, none⟩) 3 3) [x, y, z] :=
  .some w.heap.size 0 3 [x, y, z] (by simp) (by simp) (by unfold maxLen; omega) (fun i hi => by
    have h : i = 0 ∨ i = 1 ∨ i = 2 := by simp at hi; omega
    rcases h with rfl | rfl | rfl <;> (rw [World.cell?_alloc_at _ _ _ _ rfl]; rfl))
theorem small4 {x y z u : ByteArray} (hx : x.size ≤ maxLen) (hy : y.size ≤ maxLen) (hz : z.size ≤ maxLen) (hu : u.size ≤ maxLen) : ∀ i, i < [x, y, z, u].length → ([x, y, z, u].getD i noS).size ≤ maxLen := fun i hi => by
  have h : i = 0 ∨ i = 1 ∨ i = 2 ∨ i = 3 := by simp at hi; omega
  rcases h with rfl | rfl | rfl | rfl
  · exact hx
  · exact hy
  · exact hz
  · exact hu
set_option maxHeartbeats 2000000 in
theorem delta_out (p q o n : ByteArray) (i : Int) (h : ¬ (0 ≤ i ∧ i < 30)) (w : World) : Calls Try.prog 15 #[.string p, .string q, .int .i64 i, .string o, .string n] w fun e w' => e = .returned (.tuple #[.string noS, .string noS, .int .i64 3]) ∧ Kp w w' := by
  by_cases hn : i < 0
  · go_enter Try.func15, Try.ntmps15
    go_wp2
    go_ret3
    exact ⟨rfl, Kp.refl _⟩
  · have hn2 : 30 ≤ i := by omega
    have hn3 : 0 ≤ i := by omega
    clear h hn
    go_enter Try.func15, Try.ntmps15
    go_wp2
    go_ret3
    exact ⟨rfl, Kp.refl _⟩
set_option maxRecDepth 100000 in
set_option maxHeartbeats 4000000 in
theorem delta_any (p q o n : ByteArray) (hp : p.size ≤ maxLen) (hq : q.size ≤ maxLen) (ho : o.size ≤ maxLen) (hn : n.size ≤ maxLen) (i : Int) (w : World) :
    Calls Try.prog 15 #[.string p, .string q, .int .i64 i, .string o, .string n] w fun e w' => e = .returned (.tuple #[.string (dlP i p q o n), .string (dlQ i p q o n), .int .i64 (dlE i [p, q, o, n])]) ∧ Kp w w' := by
  by_cases hi : 0 ≤ i ∧ i < 30
  case neg =>
    have e3 := dl_out hi [p, q, o, n]
    unfold dlP dlQ
    rw [e3, if_neg (by decide), if_neg (by decide)]
    exact delta_out p q o n i hi w
  have hA := add_any _ [p, q, o, n] (small4 hp hq ho hn) _ (StrsIn.lit4 w p q o n 9)
  have K1 : Kp w (w.alloc (.cells #[.string p, .string q, .string o, .string n] 9)) := (Kp.refl w).alloc _
  have e0 := dl_in hi [p, q, o, n]
  unfold dlP dlQ
  rw [e0]
  have hi1 := hi.1
  have hi2 := hi.2
  clear hi e0
  by_cases hok : fitE [p, q, o, n] = 0
  · rw [if_pos hok, if_pos hok, hok]
    rw [hok] at hA
    obtain ⟨s1, s2, s3, s4⟩ := fit_four hok
    obtain ⟨R, hR⟩ : ∃ R, R = resOf [p, q, o, n] (addS [p, q, o, n]) := ⟨_, rfl⟩
    rw [← hR] at hA
    clear hR hok
    have hA2 := fun w' => add2 o n (by omega) (by omega) _ _ (StrsIn.lit2 w' o n 9)
    obtain ⟨c, hc⟩ : ∃ c, c = foldS o 1 n := ⟨_, rfl⟩
    have hcs : c.size = p.size := by rw [hc, foldS_size]; exact s4
    rw [← hc] at hA2 ⊢
    clear hc
    have hA3 := fun w' => add2 p c s1 hcs _ _ (StrsIn.lit2 w' p c 9)
    have hP := fun w' => power_any i (by omega) (by omega) w'
    have hF := fun w' => fold2 q (pwI i) (pwI_lt i) c (by omega) (by omega) w'
    clear hp hq ho hn s1 s2 s3 s4 hcs
    go_enter Try.func15, Try.ntmps15
    go_wp2_with fail
    refine hA.mono ?_; rintro e w2 ⟨rfl, k2⟩
    have K2 := K1.trans k2
    clear hA K1 k2
    go_wp2_with fail
    refine (hA2 w2).mono ?_; rintro e w3 ⟨rfl, k3⟩
    have K3 := (K2.alloc _).trans k3
    clear hA2 K2 k3
    go_wp2_with fail
    refine (hA3 w3).mono ?_; rintro e w4 ⟨rfl, k4⟩
    have K4 := (K3.alloc _).trans k4
    clear hA3 K3 k4
    go_wp2_with fail
    refine (hP w4).mono ?_; rintro e w5 ⟨rfl, k5⟩
    have K5 := K4.trans k5
    clear hP K4 k5
    go_wp2_with fail
    refine (hF w5).mono ?_; rintro e w6 ⟨rfl, k6⟩
    have K6 := K5.trans k6
    go_wp2
    go_ret3
    exact ⟨rfl, K6⟩
  · rw [if_neg hok, if_neg hok]
    have hrr : resOf [p, q, o, n] (addS [p, q, o, n]) = noS := by unfold resOf; rw [if_neg hok]
    rw [hrr] at hA
    obtain ⟨E, hE⟩ : ∃ E, E = fitE [p, q, o, n] := ⟨_, rfl⟩
    rw [← hE] at hA hok ⊢
    have hEn : (E == 0) = false := by rw [beq_eq_false_iff_ne]; exact hok
    clear hE hrr hp hq ho hn
    go_enter Try.func15, Try.ntmps15
    go_wp2_with fail
    refine hA.mono ?_; rintro e w2 ⟨rfl, k2⟩
    go_wp2
    go_ret3
    exact ⟨rfl, K1.trans k2⟩

end Go.Proofs.Ytjjghmdkpcbamaa
