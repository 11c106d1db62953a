/-
  A contract of the law's own lists: those of an act that are kept, cut off. No condition.
-/
import Derived.Test.YtinpkfdmellleaaGreatZBay
import Derived.Test.YtinpkfdmellleaaGreatZBeg
namespace Go.Proofs.YtinpkfdmellleaaGreat
open Go.RowKit Plain
set_option linter.unusedVariables false

def cutV : Value → Value
  | .slice a n c => .slice a (min n 4) c
  | v => v
def cvs (K : List (Value × List Nat)) : List Value := K.map (fun p => cutV p.1)
theorem cvs_len (K : List (Value × List Nat)) : (cvs K).length = K.length := by simp [cvs]
theorem cvs_at (K : List (Value × List Nat)) (j : Nat) (h : j < K.length) : (cvs K)[j]? = some (cutV (K.getD j noK).1) := by simp [cvs, h]
theorem cvs_more (K : List (Value × List Nat)) (k : Nat) (h : k < K.length) : cvs (K.take (k + 1)) = cvs (K.take k) ++ [cutV (K.getD k noK).1] := by
  rw [take_more K noK k h]
  simp [cvs]
theorem take_getD (l : List Nat) (i : Nat) (h : i < (l.take 4).length) : (l.take 4).getD i 0 = l.getD i 0 := by
  have h4 : i < 4 := by rw [List.length_take] at h; omega
  simp only [List.getD_eq_getElem?_getD]
  rw [List.getElem?_take_of_lt h4]
theorem KeIn.cut {w : World} {v : Value} {ks : List Nat} (h : KeIn w v ks) : KeIn w (cutV v) (ks.take 4) := by
  obtain ⟨a, cap, rfl, h1, h2, h3⟩ := h.h
  have hl : (ks.take 4).length = min ks.length 4 := by rw [List.length_take, Nat.min_comm]
  refine ⟨⟨a, cap, by rw [hl]; rfl, by rw [hl]; omega, h2, fun h0 => ?_⟩, fun x hx => h.z x (List.mem_of_mem_take hx)⟩
  obtain ⟨g, off, rfl, h4⟩ := h3 (by omega)
  refine ⟨g, off, rfl, fun i hi => ?_⟩
  rw [take_getD ks i hi]
  exact h4 i (by rw [hl] at hi; omega)
theorem info_ws : (Tryz.prog.info? 159).map (fun i => (i.zero, i.size, i.bytes)) = some (some (.slice none 0 0), 1, 24) := by kernel_rfl
/-- what the lists come to. -/
def ksF (K : List (Value × List Nat)) : Nat → List Nat := fun j => if j < min K.length 32 then ((K.getD j noK).2).take 4 else []
theorem Ks.of {w0 W w : World} {v : Value} {K : List (Value × List Nat)} {T : List Nat} (hv : ∀ i, i < K.length → KeIn w0 (K.getD i noK).1 (K.getD i noK).2) (h : OR w W.heap.size 159 v (cvs (K.take 32))) (hT : ∀ t, t ∈ T → t < W.heap.size) : Ks w0 w T v (min K.length 32) (ksF K) := by
  obtain ⟨a, g, cap, h1, h2, h3, h4, h5⟩ := h.shape
  have hl : (cvs (K.take 32)).length = min K.length 32 := by rw [cvs_len, List.length_take, Nat.min_comm]
  rw [hl] at h1 h2 h4 h5
  refine ⟨⟨a, g, 0, cap, h1, h2, h3, fun h0 => ⟨(h4 h0).1, (h4 h0).2.2, fun ht => ?_⟩, fun j hj => ?_⟩, fun j hj => ?_⟩
  · have := hT g ht
    have := (h4 h0).2.1
    omega
  · have hj2 : j < (K.take 32).length := by rw [List.length_take]; omega
    have hj3 : j < K.length := by omega
    have e1 : (K.take 32).getD j noK = K.getD j noK := by
      simp only [List.getD_eq_getElem?_getD]
      rw [List.getElem?_take_of_lt (by omega)]
    refine ⟨cutV (K.getD j noK).1, ?_, ?_⟩
    · rw [Nat.zero_add, h5 j hj, cvs_at _ j hj2, e1]
    · unfold ksF
      rw [if_pos hj]
      exact (hv j hj3).cut
  · unfold ksF
    rw [if_neg (by omega)]

set_option maxRecDepth 100000 in
set_option maxHeartbeats 1000000 in
theorem lists_any (a : A5) (w : World) (ha : KL w a.kv a.K) : Calls Tryz.prog 35 #[a5V a] w fun e w' => ∃ v, e = .returned v ∧ OR w' w.heap.size 159 v (cvs (a.K.take 32)) ∧ Kp w w' := by
  obtain ⟨op, i_, at_, odd, kv, KK⟩ := a
  unfold a5V a5cs
  simp only at ha ⊢
  show Calls Tryz.prog 35 #[.agg #[.int .i64 op, .int .i64 i_, .int .i64 at_, .bool odd, kv]] w _
  obtain ⟨a0, c0, rfl, q1, q2, q3⟩ := ha.h
  have HK := hid ha
  have HQ3 := hid q3
  obtain ⟨n0, hn0⟩ : ∃ n0, n0 = KK.length := ⟨_, rfl⟩
  rw [← hn0] at q1 ⊢
  have HN := hid hn0
  clear ha hn0 q3
  have hmin := @imin Tryz.prog
  obtain ⟨m1, e1⟩ : ∃ m : Nat, min (n0 : Int) 32 = (m : Int) := ⟨min n0 32, by omega⟩
  have hm1 : m1 ≤ n0 := by omega
  have hm3 : m1 ≤ 32 := by omega
  have HM : Hid (m1 = min n0 32) := by show m1 = min n0 32; omega
  obtain ⟨W, hW⟩ : ∃ W, W = w.alloc (.cells #[.int .i64 op, .int .i64 i_, .int .i64 at_, .bool odd, .slice a0 n0 c0] 30) := ⟨_, rfl⟩
  obtain ⟨B, hB⟩ : ∃ B, B = w.heap.size := ⟨_, rfl⟩
  have kW : Kp w W := by rw [hW]; exact (Kp.refl w).alloc _
  have r5 : W.cell? ⟨B, 4, none⟩ = some (.slice a0 n0 c0) := by rw [hW, World.cell?_alloc_at _ _ _ _ hB]; rfl
  have HW := hid hW
  have HB := hid hB
  have HKW := hid kW
  clear hW hB kW
  go_enter Tryz.func35, Tryz.ntmps35
  go_wp2_with fail
  rw [← HW.out, ← HB.out]
  go_wp2_with fail
  go_loopw [3, 14] (fun v i wr => ∃ k : Nat, k ≤ m1 ∧ i = .int .i64 k ∧ Hid (OR wr w.heap.size 159 v (cvs (KK.take k))) ∧ Hid (Kp w wr)) (fun _ i _ => m1 - (intOf i).toNat)
  case atStart => exact ⟨0, by omega, by go_num, World.ownsRow_nil _ _ _ _, HKW⟩
  case round =>
    clear r5
    obtain ⟨k, hk, rfl, HO, HS⟩ := hrel
    by_cases hlt : k < m1
    · have hk2 : k < KK.length := by rw [← HN.out]; omega
      obtain ⟨g, off, rfl, hc⟩ := HQ3.out (by omega)
      have hu := HS.out.held (hc k hk2)
      have hke := HK.out.k k hk2
      have hcp := HK.out.c k hk2
      have em := cvs_more KK k hk2
      obtain ⟨u, hu2⟩ : ∃ u, u = KK.getD k noK := ⟨_, rfl⟩
      rw [← hu2] at hu hke hcp em
      obtain ⟨u1, u2⟩ := u
      obtain ⟨ua, uc, hua, p1, p2, p3⟩ := hke.h
      simp only at hua hu hcp em
      obtain ⟨un, hun⟩ : ∃ un, un = u2.length := ⟨_, rfl⟩
      rw [← hun] at hua p1
      subst hua
      have hcc := hcp ua un uc rfl
      obtain ⟨mm, e2⟩ : ∃ m : Nat, min (un : Int) 4 = (m : Int) := ⟨min un 4, by omega⟩
      have hmm : mm ≤ un := by omega
      have ec : cutV (.slice ua un uc) = .slice ua mm uc := by
        show Value.slice ua (min un 4) uc = _
        rw [show min un 4 = mm by omega]
      rw [ec] at em
      have HE := hid em
      have HL : Hid ((cvs (KK.take k)).length ≤ 32) := by show (cvs (KK.take k)).length ≤ 32; rw [cvs_len, List.length_take]; omega
      have hs1 := HS.out.size
      clear hke hcp em hu2 p3 hun hc ec
      go_wp2_with (at_builtin; refine wpList_append_or rfl _ _ 28 159 (.slice none 0 0) 24 Tryz.underlying28 info_ws rfl (by omega) rfl w.heap.size _ _ rfl (HO.out.kp ((Kp.refl wr).alloc (.cells #[.slice ua mm uc] 159))) (.slice ua mm uc) rfl _ rfl (by rw [World.cell?_alloc_at _ _ _ _ rfl]; rfl) (by have := HL.out; omega) (by simp; omega) ?_)
      intro v' w3 ho3 hg3
      have HO3 : Hid (OR w3 w.heap.size 159 v' (cvs (KK.take (k + 1)))) := by rw [HE.out]; exact ho3
      have HS3 : Hid (Kp w w3) := (HS.out.alloc _).grown hg3 (fun q hq => (World.ownsRow.lt HO.out q hq).1)
      clear ho3 hg3 HO HS HE HL hu
      go_wp2
      go_roundw
      case rel => exact ⟨k + 1, by omega, by go_num, HO3, HS3⟩
      case measure => simp [intOf]; omega
    · obtain rfl : k = m1 := by omega
      have HO2 : Hid (OR wr w.heap.size 159 u3 (cvs (KK.take 32))) := by
        have := HO.out
        rw [show KK.take k = KK.take 32 from by
          rw [HM.out, HN.out]
          by_cases h : KK.length ≤ 32
          · rw [Nat.min_eq_left h, List.take_length, List.take_of_length_le h]
          · rw [Nat.min_eq_right (by omega)]] at this
        exact this
      clear HO HQ3
      go_wp2
      go_ret
      exact ⟨_, rfl, HO2.out, HS.out⟩

end Go.Proofs.YtinpkfdmellleaaGreat
