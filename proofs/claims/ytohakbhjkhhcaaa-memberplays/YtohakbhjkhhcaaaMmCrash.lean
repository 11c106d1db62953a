/-
  Contracts of isSet, Crash and Rot. Conditions: that the member lies in memory, its lock free; that the words lie in memory.
-/
import Derived.Test.YtohakbhjkhhcaaaMmTake
namespace Go.Proofs.Ytohakbhjkhhcaaa
open Go.RowKit Plain
set_option linter.unusedVariables false

/-! ### words in memory -/
structure KeIn (w : World) (v : Value) (ks : List Nat) : Prop where
  h : ∃ a cap, v = .slice a ks.length cap ∧ ks.length ≤ 9223372036854775807 ∧ cap ≤ 9223372036854775807 ∧ (0 < ks.length → ∃ g off, a = some ⟨g, off, none⟩ ∧ ∀ i, i < ks.length → w.cell? ⟨g, off + i, none⟩ = some (.int .u64 ((ks.getD i 0 : Nat) : Int)))
  z : ∀ x ∈ ks, x < 18446744073709551616
theorem KeIn.sp {w w' : World} {v : Value} {ks : List Nat} (h : KeIn w v ks) {T : List Nat} (k : Sp T w w') (hT : ∀ t, t ∈ T → ∀ g off n c, v = .slice (some ⟨g, off, none⟩) n c → 0 < n → g ≠ t) : KeIn w' v ks := by
  obtain ⟨a, cap, rfl, h1, h1b, h2⟩ := h.h
  refine ⟨⟨a, cap, rfl, h1, h1b, fun h0 => ?_⟩, h.z⟩
  obtain ⟨g, off, rfl, h3⟩ := h2 h0
  exact ⟨g, off, rfl, fun i hi => k.held (h3 i hi) (fun ht => hT g ht g off _ _ rfl h0 rfl)⟩
theorem KeIn.kp {w w' : World} {v : Value} {ks : List Nat} (h : KeIn w v ks) (k : Kp w w') : KeIn w' v ks := h.sp (k.sp []) (fun t ht => by cases ht)
theorem KeIn.far {w : World} {v : Value} {ks : List Nat} (h : KeIn w v ks) : ∀ g off n c, v = .slice (some ⟨g, off, none⟩) n c → 0 < n → g < w.heap.size := fun g off n c hv hn => by
  obtain ⟨a, cap, e, _, _, h2⟩ := h.h
  rw [e] at hv
  simp only [Value.slice.injEq] at hv
  obtain ⟨rfl, rfl, rfl⟩ := hv
  obtain ⟨g', off', e2, h3⟩ := h2 hn
  cases e2
  exact World.block_lt_of_cell? w _ (h3 0 hn)
/-- is the place's bit 1? -/
def bit (ks : List Nat) (k : Nat) : Bool := decide (k / 64 < ks.length) && decide (ks.getD (k / 64) 0 / 2 ^ (k % 64) % 2 = 1)
theorem and_one (y : Nat) (h : y < 18446744073709551616) : bits .and .u64 (y : Int) 1 = ((y % 2 : Nat) : Int) := by
  have := and64 y 1 h (by omega)
  rw [nat_mask1] at this
  exact this
set_option maxRecDepth 100000 in
theorem isset_any (v : Value) (ks : List Nat) (k : Nat) (hk : k < 4611686018427387904) (w : World) (h : KeIn w v ks) : Calls Try.prog 42 #[v, .int .i64 (k : Int)] w fun e w' => e = .returned (.bool (bit ks k)) ∧ w' = w := by
  obtain ⟨a, cap, rfl, h1, h1b, h2⟩ := h.h
  have hz := h.z
  have e1 : (k : Int).tdiv 64 = ((k / 64 : Nat) : Int) := by rw [Int.tdiv_eq_ediv_of_nonneg (by omega)]; omega
  have e2 : (k : Int) / 64 = ((k / 64 : Nat) : Int) := by omega
  have e3 : (k : Int).tmod 64 = ((k % 64 : Nat) : Int) := by rw [Int.tmod_eq_emod_of_nonneg (by omega)]; omega
  have e4 : (k : Int) % 64 = ((k % 64 : Nat) : Int) := by omega
  obtain ⟨q, hq⟩ : ∃ q, q = k / 64 := ⟨_, rfl⟩
  obtain ⟨r, hr⟩ : ∃ r, r = k % 64 := ⟨_, rfl⟩
  have hr64 : r < 64 := by omega
  obtain ⟨n, hn⟩ : ∃ n, n = ks.length := ⟨_, rfl⟩
  unfold bit
  rw [← hq, ← hr, ← hn]
  rw [← hq] at e1 e2
  rw [← hr] at e3 e4
  rw [← hn] at h1 h2
  by_cases hlt : q < n
  · obtain ⟨g, off, rfl, h3⟩ := h2 (by omega)
    have c := h3 q hlt
    have hX := hz (ks.getD q 0) (by rw [List.getD_eq_getElem?_getD, List.getElem?_eq_getElem (by omega)]; exact List.getElem_mem _)
    obtain ⟨X, hXX⟩ : ∃ X, X = ks.getD q 0 := ⟨_, rfl⟩
    rw [← hXX] at c hX ⊢
    have e5 : (X : Int) / 2 ^ r = ((X / 2 ^ r : Nat) : Int) := by rw [Int.natCast_ediv, Int.natCast_pow]; rfl
    have e6 := and_one (X / 2 ^ r) (Nat.lt_of_le_of_lt (Nat.div_le_self _ _) hX)
    obtain ⟨Y, hY⟩ : ∃ Y, Y = X / 2 ^ r := ⟨_, rfl⟩
    rw [← hY] at e5 e6 ⊢
    have hq2 : (q : Int) < (n : Int) := by omega
    rw [decide_eq_true hlt, Bool.true_and]
    clear h2 h3 hz hq hr hn hXX hY h
    go_enter Try.func42, Try.ntmps42
    go_wp2
    go_ret
    refine ⟨?_, rfl⟩
    show Ending.returned (.bool ((Y : Int) % 2 == 1)) = _
    congr 2
    by_cases hy : Y % 2 = 1
    · rw [decide_eq_true hy]; simp; omega
    · rw [decide_eq_false hy]; simp; omega
  · have hq2 : ¬ (q : Int) < (n : Int) := by omega
    rw [decide_eq_false hlt, Bool.false_and]
    clear h2 hz hq hr hn h
    go_enter Try.func42, Try.ntmps42
    go_wp2
    go_ret
    exact ⟨rfl, rfl⟩
/-! ### the closures -/
set_option maxRecDepth 100000 in
theorem gone_crash (c : Nat) (v : Value) (ks : List Nat) (k : Nat) (hk : k < 4611686018427387904) (p : Nat × ByteArray) (hp : p.2.size = 64) (w : World) (hc : w.cell? ⟨c, 0, none⟩ = some v) (h : KeIn w v ks) :
    Calls Try.prog 41 #[.int .i64 (k : Int), .agg (wc p).toArray, .pointer (some ⟨c, 0, none⟩)] w fun e w' => e = .returned (.bool (!bit ks k)) ∧ Kp w w' := by
  have kA : Kp w (w.alloc (.cells (wc p).toArray 99)) := (Kp.refl w).alloc _
  have hi := isset_any v ks k hk _ (h.kp kA)
  have hc2 := kA.held hc
  obtain ⟨A, hA⟩ : ∃ A, A = (wc p).toArray := ⟨_, rfl⟩
  rw [← hA] at hi kA hc2 ⊢
  clear hA
  obtain ⟨B, hB⟩ : ∃ B, B = bit ks k := ⟨_, rfl⟩
  rw [← hB] at hi ⊢
  clear hB
  go_enter Try.func41, Try.ntmps41
  go_wp2_with fail
  refine hi.mono ?_
  rintro e w' ⟨rfl, rfl⟩
  go_wp2
  go_ret
  exact ⟨rfl, kA⟩
set_option maxRecDepth 100000 in
theorem gone_rot (c : Nat) (a : Int) (k : Nat) (p : Nat × ByteArray) (hp : p.2.size = 64) (w : World) (hc : w.cell? ⟨c, 0, none⟩ = some (.int .i64 a)) :
    Calls Try.prog 43 #[.int .i64 (k : Int), .agg (wc p).toArray, .pointer (some ⟨c, 0, none⟩)] w fun e w' => e = .returned (.bool (!nq a k p)) ∧ Kp w w' := by
  have kA : Kp w (w.alloc (.cells (wc p).toArray 99)) := (Kp.refl w).alloc _
  have hcl : c < w.heap.size := World.block_lt_of_cell? w _ hc
  have hx : (wc p).toArray[0]? = some (.int .i64 (p.1 : Int)) := rfl
  obtain ⟨A, hA⟩ : ∃ A, A = (wc p).toArray := ⟨_, rfl⟩
  rw [← hA] at kA hx ⊢
  clear hA
  obtain ⟨B, hB⟩ : ∃ B, B = nq a k p := ⟨_, rfl⟩
  have hB2 : ((p.1 : Int) == a) = !B := by
    rw [hB]; unfold nq
    by_cases e : (p.1 : Int) = a <;> simp [e]
  rw [← hB]
  clear hB
  obtain ⟨x, hxx⟩ : ∃ x : Int, x = (p.1 : Int) := ⟨_, rfl⟩
  rw [← hxx] at hx hB2
  clear hxx
  go_enter Try.func43, Try.ntmps43
  go_wp2
  go_ret
  exact ⟨rfl, kA⟩

/-! ### Crash -/
set_option maxRecDepth 100000 in
set_option maxHeartbeats 1000000 in
theorem crash_any {w : World} {b bn bl : Nat} {rv : Value} {S : MS} (h : MemIn w b bn bl rv S 0 0) (v : Value) (ks : List Nat) (hk : KeIn w v ks) (hv : ∀ t, t ∈ blk b bn bl rv → ∀ g off n c, v = .slice (some ⟨g, off, none⟩) n c → 0 < n → g ≠ t) (hrl : S.row.length < 1000000) :
    Calls Try.prog 17 #[.pointer (some ⟨b, 0, none⟩), v] w fun e w' => e = .returned (.tuple #[]) ∧ Md w w' b bn bl rv (cr S (bit ks)) := by
  obtain ⟨c, hc⟩ : ∃ c, c = w.heap.size := ⟨_, rfl⟩
  obtain ⟨W, hW⟩ : ∃ W, W = w.alloc (.cells #[v] 29) := ⟨_, rfl⟩
  have kW : Kp w W := by rw [hW]; exact (Kp.refl w).alloc _
  have hcv : W.cell? ⟨c, 0, none⟩ = some v := by rw [hW, World.cell?_alloc_at _ _ _ _ hc]; rfl
  have hcT : ∀ t, t ∈ blk b bn bl rv → t ≠ c := fun t ht => by have := h.low t ht; omega
  have hv1 : ∃ a n c, v = .slice a n c := by obtain ⟨a, cap, e, _⟩ := hk.h; exact ⟨a, _, cap, e⟩
  have hM := h.kp kW
  have hK := hk.kp kW
  have HW := hid hW
  have HC := hid hc
  clear hW hc h hk
  obtain ⟨a0, n0, c0, hv0⟩ := hv1
  have HV := hid hv0
  clear hv0
  go_enter_defers Try.func17, Try.ntmps17
  rw [HV.out] at HW ⊢
  go_wp2_with fail
  rw [← HW.out, ← HC.out]
  refine (lock_any hM).mono ?_
  rintro e w1 ⟨rfl, h1, k1⟩
  go_wp2_with fail
  have hKs : ∀ w', Sp (blk b bn bl rv) W w' → KeIn w' v ks ∧ w'.cell? ⟨c, 0, none⟩ = some v := fun w' q => ⟨hK.sp q hv, q.held hcv (fun hm => hcT c hm rfl)⟩
  refine (takeC h1 (fun k _ => bit ks k) (fun w' k p hks hs hp => ?_)).mono ?_
  · obtain ⟨q1, q2⟩ := hKs w' (k1.b.trans hs.rw)
    exact gone_crash c v ks k (by omega) p hp w' q2 q1
  rintro e w2 ⟨rfl, rv2, h2, k2, n2⟩
  go_wp2_with fail
  refine (settle_any h2).mono ?_
  rintro e w3 ⟨rfl, h3, k3⟩
  simp only at h3
  have S3 : Sp (blk b bn bl rv) w w3 := (((kW.sp _).trans k1.b).trans k2).trans k3.bbl
  have cN := h3.cN
  have cL := h3.cL
  have n2' := h3.fine.n2
  have hnn : S.now.length = (pl S.las (tk (fun k x => bit ks k) 0 S.row)).length := by rw [pl_len]; exact hM.fine.nn
  obtain ⟨L, hL⟩ : ∃ L, L = pl S.las (tk (fun k x => bit ks k) 0 S.row) := ⟨_, rfl⟩
  have hcr : cr S (bit ks) = ⟨L, L, [], S.dead, S.c⟩ := by rw [hL]; rfl
  have HCR := hid hcr
  rw [← hL] at h3 cN cL n2' hnn
  simp only at cN cL n2'
  have H3 := hid h3
  clear hcr hL h2 k2 n2 h1 k1 hK hM hKs hcT hcv HV HW HC kW k3 h3
  obtain ⟨m, hm⟩ : ∃ m, m = L.length := ⟨_, rfl⟩
  rw [← hm] at cN cL n2' hnn
  have HM := hid hm
  clear hm
  have q1 := kpw_cell cN
  have q2 := kpw_cell cL
  go_wp2_with fail
  refine wp_region_tailc2 rfl (by kernel_rfl) (by kernel_rfl) (by kernel_rfl) ?_
  simp only [List.dropLast]
  repeat (first
    | go_big_quiet_skip
    | (go_big_quiet_want; go_big_quiet_op; go_big_quiet_on))
  refine wpQuiet_nil ?_
  rintro w9 ⟨q, hp9⟩
  have kD : Kp w3 w9 := by rw [hp9]; exact kpw_kp w3 q
  clear hp9 q1 q2
  have M9 := H3.out.kp kD
  have hcp := run_copy_secs w9 3 bn bl m m m (scs L) (by rw [scs_len L M9.sl.z, HM.out]) (scs_one L) (by have := M9.sn.t; rw [hnn] at this; exact this) M9.sl.all
  have hsp : Sp [bn] w9 (w9.setCells bn 0 (scs L)) := Sp.setCells bn (by simp) _ _ _ (Sp.refl _ _)
  have M10 := M9.nows hsp L (M9.sn.over L (by rw [hnn, HM.out]) M9.sl.z) rfl
  simp only at M10
  have S10 := (S3.trans (kD.sp _)).trans hsp.bn
  obtain ⟨w10, hw10⟩ : ∃ w10, w10 = w9.setCells bn 0 (scs L) := ⟨_, rfl⟩
  rw [← hw10] at hcp M10 S10
  clear M9 hsp hw10 H3 S3 kD cN cL
  refine wpList_copy_run rfl (.tmp 21) (.tmp 25) 64 64 rfl _ _ _ _ rfl rfl hcp ?_
  go_wp2_with fail
  refine leaves_cons (f := 38) (args := #[.pointer (some ⟨b, 4, none⟩)]) (by simp) (by simp [go_sem]) ?_
  refine (unlock_any M10 .returning).mono ?_
  rintro e u' w11 ⟨rfl, rfl, h11, k11⟩
  refine ⟨_, results_none rfl _ _ _, rfl, ?_⟩
  rw [HCR.out]
  exact ⟨_, h11, S10.trans k11.b, Nw.none _ _ _ _ _⟩

/-! ### Rot -/
set_option maxRecDepth 100000 in
set_option maxHeartbeats 1000000 in
theorem rot_any {w : World} {b bn bl : Nat} {rv : Value} {S : MS} (h : MemIn w b bn bl rv S 0 0) (k : Int) (s : ByteArray) :
    Calls Try.prog 20 #[.pointer (some ⟨b, 0, none⟩), .int .i64 k, .string s] w fun e w' => e = .returned (.bool (rtB S k s)) ∧ Md w w' b bn bl rv (rt S k s) := by
  obtain ⟨c, hc⟩ : ∃ c, c = w.heap.size := ⟨_, rfl⟩
  obtain ⟨W, hW⟩ : ∃ W, W = w.alloc (.cells #[.int .i64 k] 3) := ⟨_, rfl⟩
  have kW : Kp w W := by rw [hW]; exact (Kp.refl w).alloc _
  have hcv : W.cell? ⟨c, 0, none⟩ = some (.int .i64 k) := by rw [hW, World.cell?_alloc_at _ _ _ _ hc]; rfl
  have hcT : ∀ t, t ∈ blk b bn bl rv → t ≠ c := fun t ht => by have := h.low t ht; omega
  have hM := h.kp kW
  have HW := hid hW
  have HC := hid hc
  have hr := fun w1 (h1 : MemIn w1 b bn bl rv S 1 (-1073741824)) => reach_any h1 k
  by_cases hB : rtB S k s = true
  · have e2 : rt S k s = ⟨S.now.set k.toNat s, S.las.set k.toNat s, tk (nq k) 0 S.row, S.dead, S.c⟩ := if_pos hB
    unfold rtB at hB
    rw [Bool.and_eq_true, decide_eq_true_eq, decide_eq_true_eq] at hB
    obtain ⟨hE, hs⟩ := hB
    obtain ⟨_, h0, hlt⟩ := rc_ok hE
    obtain ⟨i, rfl⟩ : ∃ i : Nat, k = (i : Int) := ⟨k.toNat, by omega⟩
    have hi : i < S.las.length := by omega
    have hi2 : i < S.now.length := by rw [h.fine.nn]; exact hi
    rw [Int.toNat_natCast] at e2
    have HE2 := hid e2
    have HT := hid (show rtB S (i : Int) s = true by unfold rtB; rw [decide_eq_true hE, decide_eq_true hs]; rfl)
    rw [hE] at hr
    have hss : (s.size : Int) = 64 := by omega
    have hn2 := h.fine.n2
    have hnn := h.fine.nn
    have HS := hid hs
    have HNN := hid hnn
    clear hW hc h hE e2 hs hnn
    go_enter_defers Try.func20, Try.ntmps20
    go_wp2_with fail
    rw [← HW.out, ← HC.out]
    refine (lock_any hM).mono ?_
    rintro e w1 ⟨rfl, h1', k1⟩
    have cc := k1.held hcv (by simpa using (hcT b (b_mem _ _ _ _)).symm)
    go_wp2_with fail
    refine (hr _ h1').mono ?_
    rintro e w2 ⟨rfl, k2⟩
    have h2 := h1'.kp k2
    have K2 : Sp (blk b bn bl rv) W w2 := (k1.trans (k2.sp _)).b
    clear cc
    go_wp2_with fail
    refine (takeR h2 (nq (i : Int)) (fun w' k p hks hs hp => gone_rot c (i : Int) k p hp w' ((K2.trans hs.rw).held hcv (fun hm => hcT c hm rfl)))).mono ?_
    rintro e w3 ⟨rfl, rv3, h3, k3, n3⟩
    have S3 : Sp (blk b bn bl rv) w w3 := ((kW.sp _).trans K2).trans k3
    have N3 : Nw w (blk b bn bl rv) (blk b bn bl rv3) := (Nw.refl w _).trans n3 (Nat.le_trans kW.size K2.size)
    have cc := (K2.trans k3).held hcv (fun hm => hcT c hm rfl)
    have hcb : c ∉ [bn] := by simpa using (hcT bn (bn_mem _ _ _ _)).symm
    have hcb2 : c ∉ [bl] := by simpa using (hcT bl (bl_mem _ _ _ _)).symm
    have hcb3 : b ∉ [bn] := by simpa using h3.n1.symm
    have cN := h3.cN
    have cL := h3.cL
    simp only at cN cL h3
    have H3 := hid h3
    clear h1' h2 k1 k2 K2 k3 n3 hcT hcv hM hr kW HW HC h3
    have q1 := kpw_cell cN
    have q2 := kpw_cell cc
    have hil : (i : Int) < (S.las.length : Int) := hlt
    go_wp2_with fail
    refine wp_region_tailc2 rfl (by kernel_rfl) (by kernel_rfl) (by kernel_rfl) ?_
    simp only [List.dropLast]
    repeat (first
      | go_big_quiet_skip
      | (go_big_quiet_want; go_big_quiet_op; go_big_quiet_on))
    refine wpQuiet_nil ?_
    rintro w9 ⟨q, hp9⟩
    have kD : Kp w3 w9 := by rw [hp9]; exact kpw_kp w3 q
    clear hp9 q1 q2
    have M9 := H3.out.kp kD
    have hcp := run_copy_str w9 3 bn (i * 64) 64 s HS.out (M9.sn.at hi2)
    have hsp : Sp [bn] w9 (w9.setCells bn (i * 64) (byteCells s)) := Sp.setCells bn (by simp) _ _ _ (Sp.refl _ _)
    have M10 := M9.nows hsp (S.now.set i s) (M9.sn.set i hi2 s HS.out) (by rw [List.length_set]; exact HNN.out)
    simp only at M10
    have S10 := (S3.trans (kD.sp _)).trans hsp.bn
    have cc10 := hsp.held (kD.held cc) hcb
    have cL10 := M10.cL
    simp only at cL10
    obtain ⟨w10, hw10⟩ : ∃ w10, w10 = w9.setCells bn (i * 64) (byteCells s) := ⟨_, rfl⟩
    rw [← hw10] at hcp M10 S10 cc10 cL10
    clear M9 hsp hw10 H3 S3 kD cN cL cc
    have H10 := hid M10
    clear M10
    refine wpList_copy_run rfl (.tmp 34) (.tmp 35) 62 9 rfl _ _ _ _ rfl rfl hcp ?_
    clear hcp
    show wpList _ _ _ [] (Act.put _ (some 36) (.int .i64 64)) _
    simp only [Act.put, List.setIfInBounds_toArray, List.set_cons_succ, List.set_cons_zero]
    have q1 := kpw_cell cL10
    have q2 := kpw_cell cc10
    go_wp2_with fail
    refine wp_region_tailc2 rfl (by kernel_rfl) (by kernel_rfl) (by kernel_rfl) ?_
    simp only [List.dropLast]
    repeat (first
      | go_big_quiet_skip
      | (go_big_quiet_want; go_big_quiet_op; go_big_quiet_on))
    refine wpQuiet_nil ?_
    rintro w19 ⟨q', hp19⟩
    have kD2 : Kp w10 w19 := by rw [hp19]; exact kpw_kp w10 q'
    clear hp19 q1 q2
    have M19 := H10.out.kp kD2
    have hcp2 := run_copy_str w19 3 bl (i * 64) 64 s HS.out (M19.sl.at hi)
    have hsp2 : Sp [bl] w19 (w19.setCells bl (i * 64) (byteCells s)) := Sp.setCells bl (by simp) _ _ _ (Sp.refl _ _)
    have M20 := M19.lasts hsp2 (S.las.set i s) (M19.sl.set i hi s HS.out) (by rw [List.length_set])
    simp only at M20
    have S20 := (S10.trans (kD2.sp _)).trans hsp2.bl
    obtain ⟨w20, hw20⟩ : ∃ w20, w20 = w19.setCells bl (i * 64) (byteCells s) := ⟨_, rfl⟩
    rw [← hw20] at hcp2 M20 S20
    clear M19 hsp2 hw20 H10 S10 kD2 cL10 cc10
    refine wpList_copy_run rfl (.tmp 43) (.tmp 44) 62 9 rfl _ _ _ _ rfl rfl hcp2 ?_
    go_wp2_with fail
    refine leaves_cons (f := 38) (args := #[.pointer (some ⟨b, 4, none⟩)]) (by simp) (by simp [go_sem]) ?_
    refine (unlock_any M20 .returning).mono ?_
    rintro e u' w21 ⟨rfl, rfl, h21, k21⟩
    refine ⟨_, results_tmp rfl _ _ _, by rw [HT.out]; rfl, ?_⟩
    rw [HE2.out]
    exact ⟨_, h21, S20.trans k21.b, N3⟩
  · have e1 : rtB S k s = false := by simpa using hB
    have e2 : rt S k s = S := if_neg hB
    rw [e1, e2]
    have hh : ¬ rcE S k = 0 ∨ (rcE S k = 0 ∧ ¬ s.size = 64) := by
      unfold rtB at hB
      by_cases h1 : rcE S k = 0
      · right; exact ⟨h1, fun h2 => hB (by simp [h1, h2])⟩
      · left; exact h1
    obtain ⟨E, hEE⟩ : ∃ E, E = rcE S k := ⟨_, rfl⟩
    rw [← hEE] at hh hr
    clear hW hc h hEE hB e1 e2
    rcases hh with hE | ⟨rfl, hs⟩
    · have hE2 : (E == 0) = false := by simpa using hE
      go_enter_defers Try.func20, Try.ntmps20
      go_wp2_with fail
      rw [← HW.out, ← HC.out]
      refine (lock_any hM).mono ?_
      rintro e w1 ⟨rfl, h1', k1⟩
      have cc := k1.held hcv (by simpa using (hcT b (b_mem _ _ _ _)).symm)
      go_wp2_with fail
      refine (hr _ h1').mono ?_
      rintro e w2 ⟨rfl, k2⟩
      have h2 := h1'.kp k2
      go_wp2_with fail
      refine leaves_cons (f := 38) (args := #[.pointer (some ⟨b, 4, none⟩)]) (by simp) (by simp [go_sem]) ?_
      refine (unlock_any h2 .returning).mono ?_
      rintro e u' w4 ⟨rfl, rfl, h4, k4⟩
      exact ⟨_, results_tmp rfl _ _ _, rfl, Md.same h4 (((kW.sp _).trans (k1.trans (k2.sp _))).trans k4).b⟩
    · have hs2 : ((s.size : Int) == 64) = false := by simpa using (by omega : ¬ (s.size : Int) = 64)
      have hs3 : ¬ (s.size : Int) = 64 := by omega
      go_enter_defers Try.func20, Try.ntmps20
      go_wp2_with fail
      rw [← HW.out, ← HC.out]
      refine (lock_any hM).mono ?_
      rintro e w1 ⟨rfl, h1', k1⟩
      have cc := k1.held hcv (by simpa using (hcT b (b_mem _ _ _ _)).symm)
      go_wp2_with fail
      refine (hr _ h1').mono ?_
      rintro e w2 ⟨rfl, k2⟩
      have h2 := h1'.kp k2
      go_wp2_with fail
      refine leaves_cons (f := 38) (args := #[.pointer (some ⟨b, 4, none⟩)]) (by simp) (by simp [go_sem]) ?_
      refine (unlock_any h2 .returning).mono ?_
      rintro e u' w4 ⟨rfl, rfl, h4, k4⟩
      exact ⟨_, results_tmp rfl _ _ _, rfl, Md.same h4 (((kW.sp _).trans (k1.trans (k2.sp _))).trans k4).b⟩

end Go.Proofs.Ytohakbhjkhhcaaa
