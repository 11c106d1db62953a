/-
  Contracts of isSet, Crash and Rot. Conditions: that the member lies in memory, its lock free; that the words lie in memory.
-/
import Derived.Test.YtmklkdopmemfaaaMmTake
namespace Go.Proofs.Ytmklkdopmemfaaa
open Go.RowKit Plain
set_option linter.unusedVariables false

/-! ### words in memory -/
structure KeIn (w : World) (v : Value) (ks : List Nat) : Prop where
  h : ∃ a cap, v = .slice a ks.length cap ∧ ks.length ≤ 9223372036854775807 ∧ cap ≤ 9223372036854775807 ∧ (0 < ks.length → ∃ g off, a = some ⟨g, off, none⟩ ∧ ∀ i, i < ks.length → w.cell? ⟨g, off + i, none⟩ = some (.int .u64 ((ks.getD i 0 : Nat) : Int)))
  z : ∀ x ∈ ks, x < 18446744073709551616
theorem KeIn.sp {w w' : World} {v : Value} {ks : List Nat} (h : KeIn w v ks) {T : List Nat} (k : Sp T w w') (hT : ∀ t, t ∈ T → ∀ g off n c, v = .slice (some ⟨g, off, none⟩) n c → 0 < n → g ≠ t) : KeIn w' v ks := by
  obtain ⟨a, cap, rfl, h1, h1b, h2⟩ := h.h
  refine ⟨⟨a, cap, rfl, h1, h1b, fun h0 => ?_⟩, h.z⟩
  obtain ⟨g, off, rfl, h3⟩ := h2 h0
  exact ⟨g, off, rfl, fun i hi => k.held (h3 i hi) (fun ht => hT g ht g off _ _ rfl h0 rfl)⟩
theorem KeIn.kp {w w' : World} {v : Value} {ks : List Nat} (h : KeIn w v ks) (k : Kp w w') : KeIn w' v ks := h.sp (k.sp []) (fun t ht => by cases ht)
theorem KeIn.far {w : World} {v : Value} {ks : List Nat} (h : KeIn w v ks) : ∀ g off n c, v = .slice (some ⟨g, off, none⟩) n c → 0 < n → g < w.heap.size := fun g off n c hv hn => by
  obtain ⟨a, cap, e, _, _, h2⟩ := h.h
  rw [e] at hv
  simp only [Value.slice.injEq] at hv
  obtain ⟨rfl, rfl, rfl⟩ := hv
  obtain ⟨g', off', e2, h3⟩ := h2 hn
  cases e2
  exact World.block_lt_of_cell? w _ (h3 0 hn)
/-- is the place's bit 1? -/
def bit (ks : List Nat) (k : Nat) : Bool := decide (k / 64 < ks.length) && decide (ks.getD (k / 64) 0 / 2 ^ (k % 64) % 2 = 1)
theorem and_one (y : Nat) (h : y < 18446744073709551616) : bits .and .u64 (y : Int) 1 = ((y % 2 : Nat) : Int) := by
  have := and64 y 1 h (by omega)
  rw [nat_mask1] at this
  exact this
set_option maxRecDepth 100000 in
theorem isset_any (v : Value) (ks : List Nat) (k : Nat) (hk : k < 4611686018427387904) (w : World) (h : KeIn w v ks) : Calls Try.prog 79 #[v, .int .i64 (k : Int)] w fun e w' => e = .returned (.bool (bit ks k)) ∧ w' = w := by
  obtain ⟨a, cap, rfl, h1, h1b, h2⟩ := h.h
  have hz := h.z
  have e1 : (k : Int).tdiv 64 = ((k / 64 : Nat) : Int) := by rw [Int.tdiv_eq_ediv_of_nonneg (by omega)]; omega
  have e2 : (k : Int) / 64 = ((k / 64 : Nat) : Int) := by omega
  have e3 : (k : Int).tmod 64 = ((k % 64 : Nat) : Int) := by rw [Int.tmod_eq_emod_of_nonneg (by omega)]; omega
  have e4 : (k : Int) % 64 = ((k % 64 : Nat) : Int) := by omega
  obtain ⟨q, hq⟩ : ∃ q, q = k / 64 := ⟨_, rfl⟩
  obtain ⟨r, hr⟩ : ∃ r, r = k % 64 := ⟨_, rfl⟩
  have hr64 : r < 64 := by omega
  obtain ⟨n, hn⟩ : ∃ n, n = ks.length := ⟨_, rfl⟩
  unfold bit
  rw [← hq, ← hr, ← hn]
  rw [← hq] at e1 e2
  rw [← hr] at e3 e4
  rw [← hn] at h1 h2
  by_cases hlt : q < n
  · obtain ⟨g, off, rfl, h3⟩ := h2 (by omega)
    have c := h3 q hlt
    have hX := hz (ks.getD q 0) (by rw [List.getD_eq_getElem?_getD, List.getElem?_eq_getElem (by omega)]; exact List.getElem_mem _)
    obtain ⟨X, hXX⟩ : ∃ X, X = ks.getD q 0 := ⟨_, rfl⟩
    rw [← hXX] at c hX ⊢
    have e5 : (X : Int) / 2 ^ r = ((X / 2 ^ r : Nat) : Int) := by rw [Int.natCast_ediv, Int.natCast_pow]; rfl
    have e6 := and_one (X / 2 ^ r) (Nat.lt_of_le_of_lt (Nat.div_le_self _ _) hX)
    obtain ⟨Y, hY⟩ : ∃ Y, Y = X / 2 ^ r := ⟨_, rfl⟩
    rw [← hY] at e5 e6 ⊢
    have hq2 : (q : Int) < (n : Int) := by omega
    rw [decide_eq_true hlt, Bool.true_and]
    clear h2 h3 hz hq hr hn hXX hY h
    go_enter Try.func79, Try.ntmps79
    go_wp2
    go_ret
    refine ⟨?_, rfl⟩
    show Ending.returned (.bool ((Y : Int) % 2 == 1)) = _
    congr 2
    by_cases hy : Y % 2 = 1
    · rw [decide_eq_true hy]; simp; omega
    · rw [decide_eq_false hy]; simp; omega
  · have hq2 : ¬ (q : Int) < (n : Int) := by omega
    rw [decide_eq_false hlt, Bool.false_and]
    clear h2 hz hq hr hn h
    go_enter Try.func79, Try.ntmps79
    go_wp2
    go_ret
    exact ⟨rfl, rfl⟩
/-! ### the closures -/
set_option maxRecDepth 100000 in
theorem gone_crash (c : Nat) (v : Value) (ks : List Nat) (k : Nat) (hk : k < 4611686018427387904) (p : Nat × ByteArray) (hp : p.2.size = 64) (w : World) (hc : w.cell? ⟨c, 0, none⟩ = some v) (h : KeIn w v ks) :
    Calls Try.prog 78 #[.int .i64 (k : Int), .agg (wc p).toArray, .pointer (some ⟨c, 0, none⟩)] w fun e w' => e = .returned (.bool (!bit ks k)) ∧ Kp w w' := by
  have kA : Kp w (w.alloc (.cells (wc p).toArray 112)) := (Kp.refl w).alloc _
  have hi := isset_any v ks k hk _ (h.kp kA)
  have hc2 := kA.held hc
  obtain ⟨A, hA⟩ : ∃ A, A = (wc p).toArray := ⟨_, rfl⟩
  rw [← hA] at hi kA hc2 ⊢
  clear hA
  obtain ⟨B, hB⟩ : ∃ B, B = bit ks k := ⟨_, rfl⟩
  rw [← hB] at hi ⊢
  clear hB
  go_enter Try.func78, Try.ntmps78
  go_wp2_with fail
  refine hi.mono ?_
  rintro e w' ⟨rfl, rfl⟩
  go_wp2
  go_ret
  exact ⟨rfl, kA⟩

/-! ### Crash -/
set_option maxRecDepth 100000 in
set_option maxHeartbeats 1000000 in
theorem crash_any {w : World} {b bn bl : Nat} {rv : Value} {S : MS} (h : MemIn w b bn bl rv S 0 0) (v : Value) (ks : List Nat) (hk : KeIn w v ks) (hv : ∀ t, t ∈ blk b bn bl rv → ∀ g off n c, v = .slice (some ⟨g, off, none⟩) n c → 0 < n → g ≠ t) (hrl : S.row.length < 1000000) :
    Calls Try.prog 50 #[.pointer (some ⟨b, 0, none⟩), v] w fun e w' => e = .returned (.tuple #[]) ∧ Md w w' b bn bl rv (cr S (bit ks)) := by
  obtain ⟨c, hc⟩ : ∃ c, c = w.heap.size := ⟨_, rfl⟩
  obtain ⟨W, hW⟩ : ∃ W, W = w.alloc (.cells #[v] 110) := ⟨_, rfl⟩
  have kW : Kp w W := by rw [hW]; exact (Kp.refl w).alloc _
  have hcv : W.cell? ⟨c, 0, none⟩ = some v := by rw [hW, World.cell?_alloc_at _ _ _ _ hc]; rfl
  have hcT : ∀ t, t ∈ blk b bn bl rv → t ≠ c := fun t ht => by have := h.low t ht; omega
  have hv1 : ∃ a n c, v = .slice a n c := by obtain ⟨a, cap, e, _⟩ := hk.h; exact ⟨a, _, cap, e⟩
  have hM := h.kp kW
  have hK := hk.kp kW
  have HW := hid hW
  have HC := hid hc
  clear hW hc h hk
  obtain ⟨a0, n0, c0, hv0⟩ := hv1
  have HV := hid hv0
  clear hv0
  go_enter_defers Try.func50, Try.ntmps50
  rw [HV.out] at HW ⊢
  go_wp2_with fail
  rw [← HW.out, ← HC.out]
  refine (lock_any hM).mono ?_
  rintro e w1 ⟨rfl, h1, k1⟩
  go_wp2_with fail
  have hKs : ∀ w', Sp (blk b bn bl rv) W w' → KeIn w' v ks ∧ w'.cell? ⟨c, 0, none⟩ = some v := fun w' q => ⟨hK.sp q hv, q.held hcv (fun hm => hcT c hm rfl)⟩
  refine (takeC h1 (fun k _ => bit ks k) (fun w' k p hks hs hp => ?_)).mono ?_
  · obtain ⟨q1, q2⟩ := hKs w' (k1.b.trans hs.rw)
    exact gone_crash c v ks k (by omega) p hp w' q2 q1
  rintro e w2 ⟨rfl, rv2, h2, k2, n2⟩
  go_wp2_with fail
  refine (settle_any h2).mono ?_
  rintro e w3 ⟨rfl, h3, k3⟩
  simp only at h3
  have S3 : Sp (blk b bn bl rv) w w3 := (((kW.sp _).trans k1.b).trans k2).trans k3.bbl
  have cN := h3.cN
  have cL := h3.cL
  have n2' := h3.fine.n2
  have hnn : S.now.length = (pl S.las (tk (fun k x => bit ks k) 0 S.row)).length := by rw [pl_len]; exact hM.fine.nn
  obtain ⟨L, hL⟩ : ∃ L, L = pl S.las (tk (fun k x => bit ks k) 0 S.row) := ⟨_, rfl⟩
  have hcr : cr S (bit ks) = ⟨L, L, [], S.dead, S.c⟩ := by rw [hL]; rfl
  have HCR := hid hcr
  rw [← hL] at h3 cN cL n2' hnn
  simp only at cN cL n2'
  have H3 := hid h3
  clear hcr hL h2 k2 n2 h1 k1 hK hM hKs hcT hcv HV HW HC kW k3 h3
  obtain ⟨m, hm⟩ : ∃ m, m = L.length := ⟨_, rfl⟩
  rw [← hm] at cN cL n2' hnn
  have HM := hid hm
  clear hm
  have q1 := kpw_cell cN
  have q2 := kpw_cell cL
  go_wp2_with fail
  refine wp_region_tailc2 rfl (by kernel_rfl) (by kernel_rfl) (by kernel_rfl) ?_
  simp only [List.dropLast]
  repeat (first
    | go_big_quiet_skip
    | (go_big_quiet_want; go_big_quiet_op; go_big_quiet_on))
  refine wpQuiet_nil ?_
  rintro w9 ⟨q, hp9⟩
  have kD : Kp w3 w9 := by rw [hp9]; exact kpw_kp w3 q
  clear hp9 q1 q2
  have M9 := H3.out.kp kD
  have hcp := run_copy_secs w9 3 bn bl m m m (scs L) (by rw [scs_len L M9.sl.z, HM.out]) (scs_one L) (by have := M9.sn.t; rw [hnn] at this; exact this) M9.sl.all
  have hsp : Sp [bn] w9 (w9.setCells bn 0 (scs L)) := Sp.setCells bn (by simp) _ _ _ (Sp.refl _ _)
  have M10 := M9.nows hsp L (M9.sn.over L (by rw [hnn, HM.out]) M9.sl.z) rfl
  simp only at M10
  have S10 := (S3.trans (kD.sp _)).trans hsp.bn
  obtain ⟨w10, hw10⟩ : ∃ w10, w10 = w9.setCells bn 0 (scs L) := ⟨_, rfl⟩
  rw [← hw10] at hcp M10 S10
  clear M9 hsp hw10 H3 S3 kD cN cL
  refine wpList_copy_run rfl (.tmp 21) (.tmp 25) 98 98 rfl _ _ _ _ rfl rfl hcp ?_
  go_wp2_with fail
  refine leaves_cons (f := 60) (args := #[.pointer (some ⟨b, 4, none⟩)]) (by simp) (by simp [go_sem]) ?_
  refine (unlock_any M10 .returning).mono ?_
  rintro e u' w11 ⟨rfl, rfl, h11, k11⟩
  refine ⟨_, results_none rfl _ _ _, rfl, ?_⟩
  rw [HCR.out]
  exact ⟨_, h11, S10.trans k11.b, Nw.none _ _ _ _ _⟩

/-! ### Rot -/

end Go.Proofs.Ytmklkdopmemfaaa
