/-
  Contracts of package syndrome: Power, Make, Fits, Delta: as the document words them. Conditions: the arguments' own kinds, and that a list's cells hold the texts.
-/
import Derived.Test.YtbcmgogfpboibaaGreatDoorSynWgt
namespace Go.Proofs.YtbcmgogfpboibaaGreatDoor
open Go.RowKit Plain Go.BigFrame

def b1 (x : Nat) : ByteArray := bs 1 (fun _ => x)
theorem b1_size (x : Nat) : (b1 x).size = 1 := bs_size _ _
theorem b1_at (x : Nat) (h : x < 256) : bAt (b1 x) 0 = x := bAt_bs 1 _ 0 (by omega) h
theorem b1_one : (⟨#[1]⟩ : ByteArray) = b1 (pw 0) := by decide +kernel
theorem b1_scale (k : Nat) : scaleS 2 (b1 (pw k)) = b1 (pw (k + 1)) := by
  apply bs_ext
  · rw [scaleS_size, b1_size, b1_size]
  · intro i hi
    rw [scaleS_size, b1_size] at hi
    obtain rfl : i = 0 := by omega
    rw [scaleS_at 2 (by omega) _ 0 (by rw [b1_size]; omega)]
    show ml 2 (bAt (b1 (pw k)) 0) = bAt (b1 (pw (k + 1))) 0
    rw [b1_at _ (pw_lt _), b1_at _ (pw_lt _), pw_succ, ml_comm 2 _ (by omega) (pw_lt _)]

set_option maxRecDepth 100000 in
set_option maxHeartbeats 2000000 in
theorem power_in (n : Nat) (hn : n < 30) (w : World) : Calls Tryz.prog 62 #[.int .i64 (n : Int)] w fun e w' => e = .returned (.int .u8 (pw n : Nat)) ∧ Kp w w' := by
  go_enter Tryz.func62, Tryz.ntmps62
  go_wp2
  rw [b1_one]
  go_loopw [3, 11] (fun s i wr => ∃ k : Nat, k ≤ n ∧ i = .int .i64 k ∧ s = .string (b1 (pw k)) ∧ Kp w wr) (fun _ i _ => n - (intOf i).toNat)
  case atStart => exact ⟨0, by omega, rfl, rfl, Kp.refl w⟩
  case round =>
    obtain ⟨k, hk, rfl, rfl, hK⟩ := hrel
    by_cases hlt : k < n
    · have hS := scale1 2 (by omega) (b1 (pw k)) (by rw [b1_size]; omega) wr
      rw [b1_scale] at hS
      go_wp2_with (go_at_call 73; refine hS.mono ?_; rintro e w2 ⟨rfl, k2⟩)
      go_roundw
      case rel => exact ⟨k + 1, by omega, by go_num, rfl, hK.trans k2⟩
      case measure => simp [intOf] <;> omega
    · obtain rfl : k = n := by omega
      have hz := b1_size (pw k)
      have hb : ((b1 (pw k))[0]'(by rw [b1_size]; omega)).toNat = pw k := by rw [← bAt_nat]; exact b1_at _ (pw_lt _)
      go_wp2
      go_ret
      exact ⟨rfl, hK⟩

set_option maxHeartbeats 2000000 in
theorem power_any (i : Int) (h1 : -9223372036854775808 ≤ i) (h2 : i ≤ 9223372036854775807) (w : World) : Calls Tryz.prog 62 #[.int .i64 i] w fun e w' => e = .returned (.int .u8 (pwI i : Nat)) ∧ Kp w w' := by
  by_cases h : 0 ≤ i ∧ i < 30
  · obtain ⟨k, rfl⟩ : ∃ k : Nat, (k : Int) = i := ⟨i.toNat, by omega⟩
    rw [pwI_in k (by omega)]
    exact power_in k (by omega) w
  · rw [pwI_out h]
    by_cases hn : i < 0
    · go_enter Tryz.func62, Tryz.ntmps62
      go_wp2
      go_ret
      exact ⟨rfl, Kp.refl _⟩
    · have hn2 : 30 ≤ i := by omega
      have hn3 : 0 ≤ i := by omega
      clear h hn
      go_enter Tryz.func62, Tryz.ntmps62
      go_wp2
      go_ret
      exact ⟨rfl, Kp.refl _⟩

theorem ret3 (l : List ByteArray) (h : mkE l ≠ 0) : Ending.returned (.tuple #[.string noS, .string noS, .int .i64 (mkE l)]) = .returned (.tuple #[.string (pS l), .string (qS l), .int .i64 (mkE l)]) := by rw [p_not h, q_not h]
set_option maxHeartbeats 2000000 in
theorem make_few (a : Option Addr) (len cap : Nat) (h : len < 2) (w : World) : Calls Tryz.prog 32 #[.slice a len cap] w fun e w' => e = .returned (.tuple #[.string noS, .string noS, .int .i64 3]) ∧ Kp w w' := by
  go_enter Tryz.func32, Tryz.ntmps32
  go_wp2
  go_ret3
  exact ⟨rfl, Kp.refl _⟩
set_option maxHeartbeats 2000000 in
theorem make_many (a : Option Addr) (len cap : Nat) (h : 30 < len) (w : World) : Calls Tryz.prog 32 #[.slice a len cap] w fun e w' => e = .returned (.tuple #[.string noS, .string noS, .int .i64 3]) ∧ Kp w w' := by
  go_enter Tryz.func32, Tryz.ntmps32
  go_wp2
  go_ret3
  exact ⟨rfl, Kp.refl _⟩
set_option maxRecDepth 100000 in
set_option maxHeartbeats 4000000 in
theorem make_any (v : Value) (l : List ByteArray) (hs : ∀ i, i < l.length → (l.getD i noS).size ≤ maxLen) (w : World) (h : StrsIn w v l) :
    Calls Tryz.prog 32 #[v] w fun e w' => e = .returned (.tuple #[.string (pS l), .string (qS l), .int .i64 (mkE l)]) ∧ Kp w w' := by
  by_cases hf : l.length < 2
  · have e3 := mk_out (l := l) (.inl hf)
    rw [p_not (by rw [e3]; decide), q_not (by rw [e3]; decide), e3]
    cases h with
    | empty a cap h => exact make_few a 0 cap hf w
    | some b off cap l h0 h1 h2 hc => exact make_few _ _ cap hf w
  by_cases hm : 30 < l.length
  · have e3 := mk_out (l := l) (.inr hm)
    rw [p_not (by rw [e3]; decide), q_not (by rw [e3]; decide), e3]
    cases h with
    | empty a cap h => exact make_many a 0 cap hm w
    | some b off cap l h0 h1 h2 hc => exact make_many _ _ cap hm w
  have hA := add_any v l hs w h
  have e0 := mk_in (l := l) (by omega) (by omega)
  by_cases hok : fitE l = 0
  · have hm0 : mkE l = 0 := by rw [e0, hok]
    rw [res_ok hok, hok, ← p_add hm0] at hA
    rw [hm0, q_ok hm0]
    have hfit := fit_is l hok
    obtain ⟨P, hP⟩ : ∃ P, P = pS l := ⟨_, rfl⟩
    obtain ⟨n, hn⟩ : ∃ n, n = (l.getD 0 noS).size := ⟨_, rfl⟩
    rw [← hn] at hfit ⊢
    rw [← hP] at hA ⊢
    clear hP
    cases h with
    | empty a cap h => exact absurd hf (by simp)
    | some b off cap l h0 h1 h2 hc =>
      have hn6 : n ≤ 65536 := by have := hfit.1 0 h0; omega
      have hW := fun (w' : World) (k : Kp w w') => weighted_any b off cap n l h0 (by omega) h1 h2 hn6 hfit.2 w' (fun i hi => k.held (hc i hi))
      obtain ⟨Q, hQ⟩ : ∃ Q, Q = wgtS n l := ⟨_, rfl⟩
      rw [← hQ] at hW ⊢
      obtain ⟨len, hl⟩ : ∃ len, len = l.length := ⟨_, rfl⟩
      rw [← hl] at hA hW hf hm h1 ⊢
      clear hs hfit hc hn hQ h0 e0 hok hm0 hl
      have hf2 : 2 ≤ len := by omega
      have hm2 : len ≤ 30 := by omega
      clear hf hm
      go_enter Tryz.func32, Tryz.ntmps32
      go_wp2_with fail
      refine hA.mono ?_; rintro e w2 ⟨rfl, k2⟩
      go_wp2_with fail
      refine (hW w2 k2).mono ?_; rintro e w3 ⟨rfl, k3⟩
      go_wp2
      go_ret3
      exact ⟨rfl, k2.trans k3⟩
  · have hm0 : mkE l ≠ 0 := by rw [e0]; exact hok
    rw [← ret3 l hm0, e0]
    have hrr : resOf l (addS l) = noS := by unfold resOf; rw [if_neg hok]
    rw [hrr] at hA
    obtain ⟨E, hE⟩ : ∃ E, E = fitE l := ⟨_, rfl⟩
    rw [← hE] at hA hok ⊢
    have hr := fit_range l
    rw [← hE] at hr
    cases h with
    | empty a cap h => exact absurd hf (by simp)
    | some b off cap l h0 h1 h2 hc =>
      obtain ⟨len, hl⟩ : ∃ len, len = l.length := ⟨_, rfl⟩
      rw [← hl] at hA hf hm h1 ⊢
      clear hs hc hE h0 e0 hm0 hl hrr
      have hf2 : 2 ≤ len := by omega
      have hm2 : len ≤ 30 := by omega
      clear hf hm
      have hEn : (E == 0) = false := by rw [beq_eq_false_iff_ne]; exact hok
      go_enter Tryz.func32, Tryz.ntmps32
      go_wp2_with fail
      refine hA.mono ?_; rintro e w2 ⟨rfl, k2⟩
      go_wp2
      go_ret3
      exact ⟨rfl, k2⟩

def fitsB (l : List ByteArray) (p q : ByteArray) : Bool := (mkE l == 0) && ((p.toList == (pS l).toList) && (q.toList == (qS l).toList))

theorem StrsIn.lit4 (w : World) (x y z u : ByteArray) (t : TypeId) : StrsIn (w.alloc (.cells #[.string x, .string y, .string z, .string u] t)) (.slice (Option.some ⟨w.heap.size, 0, none⟩) 4 4) [x, y, z, u] :=
  .some w.heap.size 0 4 [x, y, z, u] (by simp) (by simp) (by unfold maxLen; omega) (fun i hi => by
    have h : i = 0 ∨ i = 1 ∨ i = 2 ∨ i = 3 := by simp at hi; omega
    rcases h with rfl | rfl | rfl | rfl <;> (rw [World.cell?_alloc_at _ _ _ _ rfl]; rfl))
theorem StrsIn.lit3 (w : World) (x y z : ByteArray) (t : TypeId) : StrsIn (w.alloc (.cells #[.string x, .string y, .string z] t)) (.slice (Option.some ⟨w.heap.size, 0, none⟩) 3 3) [x, y, z] :=
  .some w.heap.size 0 3 [x, y, z] (by simp) (by simp) (by unfold maxLen; omega) (fun i hi => by
    have h : i = 0 ∨ i = 1 ∨ i = 2 := by simp at hi; omega
    rcases h with rfl | rfl | rfl <;> (rw [World.cell?_alloc_at _ _ _ _ rfl]; rfl))
theorem small4 {x y z u : ByteArray} (hx : x.size ≤ maxLen) (hy : y.size ≤ maxLen) (hz : z.size ≤ maxLen) (hu : u.size ≤ maxLen) : ∀ i, i < [x, y, z, u].length → ([x, y, z, u].getD i noS).size ≤ maxLen := fun i hi => by
  have h : i = 0 ∨ i = 1 ∨ i = 2 ∨ i = 3 := by simp at hi; omega
  rcases h with rfl | rfl | rfl | rfl
  · exact hx
  · exact hy
  · exact hz
  · exact hu

end Go.Proofs.YtbcmgogfpboibaaGreatDoor
