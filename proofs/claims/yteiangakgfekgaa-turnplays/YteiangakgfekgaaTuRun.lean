/-
  Contract of the laws' run: a turn behind some calls. Condition: that the script lies in memory.
-/
import Derived.Test.YteiangakgfekgaaTuWakes
namespace Go.Proofs.Yteiangakgfekgaa
open Go.RowKit Plain
set_option linter.unusedVariables false

/-- what a run's turn is. -/
structure Rn (S : TS) (x y : Int) : Prop where
  M : S.M = 1 + max 0 x % 20
  Z : S.Z = max 0 y % S.M
  n : S.n ≤ 80
  ks : ∀ k ∈ S.P ++ S.D, 0 ≤ k ∧ k < 32
/-- .. behind so many acts. -/
structure Rk (S : TS) (M Z : Int) (q : Nat) : Prop where
  M : S.M = M
  Z : S.Z = Z
  n : S.n ≤ q
  ks : ∀ k ∈ S.P ++ S.D, 0 ≤ k ∧ k < 32
theorem Rk.new (M Z : Int) : Rk (newT M Z) M Z 0 := ⟨rfl, rfl, by simp [newT], fun k h => by simp [newT] at h⟩
theorem Rk.more {S : TS} {M Z : Int} {q : Nat} (h : Rk S M Z q) : Rk S M Z (q + 1) := ⟨h.M, h.Z, Nat.le_succ_of_le h.n, h.ks⟩
theorem Rk.touch {S : TS} {M Z : Int} {q : Nat} (h : Rk S M Z q) (hg : Gd S) (k : Int) : Rk (toS S k) M Z (q + 1) := by
  obtain ⟨_, h2, h3, h4⟩ := to_K S k
  have := h.n
  exact ⟨h2.trans h.M, h3.trans h.Z, by rw [h4]; omega, fun j hj => h.ks j ((to_perm hg k).mem_iff.1 hj)⟩
theorem Rk.pin {S : TS} {M Z : Int} {q : Nat} (h : Rk S M Z q) (k : Int) (on : Bool) : Rk (pnS S k on) M Z (q + 1) := by
  unfold pnS
  split
  · exact ⟨h.M, h.Z, Nat.succ_le_succ h.n, h.ks⟩
  · exact h.more
theorem Rk.drop {S : TS} {M Z : Int} {q : Nat} (h : Rk S M Z q) (hg : Gd S) (k : Int) : Rk (drS S k) M Z (q + 1) := by
  unfold drS
  split
  · rename_i hi
    exact ⟨h.M, h.Z, Nat.le_succ_of_le h.n, fun j hj => h.ks j ((tk_perm hg (in_iff.1 hi)).mem_iff.2 (List.mem_cons_of_mem _ hj))⟩
  · exact h.more
theorem Rk.add {S : TS} {M Z : Int} {q : Nat} (h : Rk S M Z q) {k : Int} (hk : 0 ≤ k ∧ k < 32) : Rk (adS S k) M Z (q + 1) := by
  by_cases e : adE S k = 0
  · rw [ad_ok e]
    refine ⟨h.M, h.Z, Nat.le_succ_of_le h.n, fun j hj => ?_⟩
    rcases List.mem_cons.1 ((ad_perm S k).mem_iff.1 hj) with rfl | hj
    · exact hk
    · exact h.ks j hj
  · rw [ad_no e]; exact h.more
set_option maxRecDepth 100000 in
set_option maxHeartbeats 8000000 in
theorem run_any (x y : Int) (v : Value) (L : List A3) (w : World) (hA : Acts w v L) : Calls Try.prog 22 #[.agg #[.int .i64 x, .int .i64 y], v] w fun e w' => ∃ a S, e = .returned (.tuple #[.pointer (some ⟨a, 0, none⟩), .int .i64 S.Z, .bool true]) ∧ Tu w w' a S [] ∧ Rn S x y := by
  obtain ⟨pa, pg, po, pc, ln, rfl, hp1, hp2, hpa, hpc⟩ := hA.open
  have HPC := hid hpc
  clear hA hpc
  obtain ⟨kk, ekk⟩ : ∃ k, k = min ln 80 := ⟨_, rfl⟩
  have hmin : ∀ ts t W, (Builtin.min_ ts t #[.int .i64 (ln : Int), .int .i64 80]).run Try.prog W = .ok (.int .i64 (kk : Int)) W := fun ts t W => by
    rw [imin ts t _ _ W]
    congr 2
    omega
  have hk1 : kk ≤ ln := by omega
  have hk80 : kk ≤ 80 := by omega
  clear ekk
  obtain ⟨mx, hmx⟩ : ∃ mx, mx = max 0 x := ⟨_, rfl⟩
  obtain ⟨my, hmy⟩ : ∃ my, my = max 0 y := ⟨_, rfl⟩
  have hmax : ∀ ts t W, (Builtin.max_ ts t #[.int .i64 0, .int .i64 x]).run Try.prog W = .ok (.int .i64 mx) W := fun ts t W => by rw [hmx]; exact imax ts t 0 x W
  have hmay : ∀ ts t W, (Builtin.max_ ts t #[.int .i64 0, .int .i64 y]).run Try.prog W = .ok (.int .i64 my) W := fun ts t W => by rw [hmy]; exact imax ts t 0 y W
  obtain ⟨r, hr⟩ : ∃ r : Int, r = mx % 20 := ⟨_, rfl⟩
  have htm : mx.tmod 20 = r := by rw [Int.tmod_eq_emod_of_nonneg (by omega), hr]
  have hr0 : 0 ≤ r ∧ r < 20 := by omega
  obtain ⟨M, hM⟩ : ∃ M : Int, M = 1 + r := ⟨_, rfl⟩
  obtain ⟨Z, hZ⟩ : ∃ Z : Int, Z = my % M := ⟨_, rfl⟩
  have htz : my.tmod M = Z := by rw [Int.tmod_eq_emod_of_nonneg (by omega), hZ]
  have hZ0 : 0 ≤ Z := by rw [hZ]; exact Int.emod_nonneg _ (by omega)
  have hZ1 : Z < M := by rw [hZ]; exact Int.emod_lt_of_pos _ (by omega)
  have hMb : 1 ≤ M ∧ M ≤ 20 := by omega
  have hMz : (M == 0) = false := by simp; omega
  obtain ⟨hMb1, hMb2⟩ := hMb
  have HR : Hid (M = 1 + max 0 x % 20 ∧ Z = max 0 y % M) := ⟨by rw [hM, hr, hmx], by rw [hZ, hmy]⟩
  obtain ⟨W, hW⟩ : ∃ W, W = w.alloc (.cells #[.int .i64 x, .int .i64 y] 45) := ⟨_, rfl⟩
  obtain ⟨H, hH⟩ : ∃ H, H = w.heap.size := ⟨_, rfl⟩
  have hB : W.heap[H]? = some (.cells #[.int .i64 x, .int .i64 y] 45 (0, 0)) := by rw [hW, hH]; exact new_obj _ _ _
  have e0 := cell_of hB 0
  have e1 := cell_of hB 1
  have HW : Hid (W = w.alloc (.cells #[.int .i64 x, .int .i64 y] 45) ∧ H = w.heap.size) := ⟨hW, hH⟩
  have HK : Hid (Kp w W) := by rw [hW]; exact (Kp.refl w).alloc _
  have hN := Tu.new (m := M) (d := Z) ⟨by omega, by omega, by omega, by omega⟩ W
  have HM31 := hid mask31
  have HR7 := hid rem7
  clear hmx hmy hr hZ hW hH hB
  go_enter Try.func22, Try.ntmps22
  go_upto_region 1 with fail
  rw [← HW.out.1, ← HW.out.2]
  clear HW
  go_upto_region 2 with fail
  rw [← hM]
  clear hM hr0 htm hmax
  go_wp2_with fail
  refine hN.mono ?_; rintro e w1 ⟨a, rfl, u1⟩
  have H0 : Hid (∃ T, TX W w1 a T (newT M Z) ∧ Gd (newT M Z) ∧ Kp W w1) := by obtain ⟨T, q1, q2, q3, _⟩ := u1; exact ⟨T, q1, q2, q3⟩
  have hT0 : Hid (Tu w w1 a (newT M Z) []) := by
    obtain ⟨T, ⟨mb, vp, vd, eT, q1⟩, q2, q3, q4⟩ := u1
    have hs := HK.out.size
    exact ⟨T, ⟨mb, vp, vd, eT, ⟨q1.h, q1.p.mono hs, q1.d.mono hs, q1.k, Nat.le_trans hs q1.ba, Nat.le_trans hs q1.bm, q1.am, q1.pa, q1.pm, q1.da, q1.dm, q1.pd, Nat.le_trans hs q1.sz⟩⟩, q2, HK.out.trans q3, q4⟩
  clear hN u1 H0 e0 e1 htz hmay hMz
  go_upto_region 4 with fail
  go_cut [34, 35, 36] (fun p qq i wx => ∃ a', p = .slice a' kk pc ∧ qq = .int .i64 (kk : Int) ∧ i = .int .i64 ((0 : Nat) : Int) ∧ (0 < kk → a' = some ⟨pg, po, none⟩) ∧ w1 = wx)
  case first =>
    by_cases h0 : 0 < ln
    · obtain rfl := hpa h0
      go_wp2_with fail
      go_meet
      exact ⟨_, rfl, rfl, rfl, fun _ => rfl, rfl⟩
    · have hn0 : ln = 0 := by omega
      subst hn0
      obtain rfl : kk = 0 := by omega
      cases pa with
      | none =>
        go_wp2_with fail
        go_meet
        exact ⟨_, rfl, rfl, rfl, fun h => absurd h (by omega), rfl⟩
      | some ad =>
        go_wp2_with fail
        go_meet
        exact ⟨_, rfl, rfl, rfl, fun h => absurd h (by omega), rfl⟩
  case rest =>
  obtain ⟨a', rfl, rfl, rfl, ha', rfl⟩ := hcut
  have H0 : Hid (Tu w w1 a (newT M Z) [] ∧ Rk (newT M Z) M Z 0) := ⟨hT0.out, Rk.new M Z⟩
  clear hmin hpa hT0 HK
  go_wp2_with fail
  go_loopw [12, 13, 36] (fun _ _ i wr => ∃ (k : Nat) (S : TS), k ≤ kk ∧ i = .int .i64 k ∧ Hid (Tu w wr a S [] ∧ Rk S M Z k)) (fun _ _ i _ => kk - (intOf i).toNat)
  case atStart => exact ⟨0, newT M Z, by omega, by go_num, H0⟩
  case round =>
    clear H0
    obtain ⟨k, S, hk, rfl, HQ⟩ := hrel
    rename World => wr
    by_cases hlt : k < kk
    · obtain rfl := ha' (by omega)
      obtain ⟨⟨c0, c1, c2⟩, hdo, hko⟩ := HPC.out wr HQ.out.1.k k (by omega)
      obtain ⟨dd, hdd⟩ : ∃ z, z = (L.getD k no3).d := ⟨_, rfl⟩
      obtain ⟨ky, hky⟩ : ∃ z, z = (L.getD k no3).k := ⟨_, rfl⟩
      obtain ⟨on, hon⟩ : ∃ z, z = (L.getD k no3).on := ⟨_, rfl⟩
      rw [← hdd] at c0
      rw [← hky] at c1
      rw [← hon] at c2
      obtain ⟨V, hV⟩ : ∃ V, V = wr.alloc (.cells #[.int .i64 dd, .int .i64 ky, .bool on] 37) := ⟨_, rfl⟩
      obtain ⟨H2, hH2⟩ : ∃ H, H = wr.heap.size := ⟨_, rfl⟩
      have e0 : V.cell? ⟨H2, 0, none⟩ = some (.int .i64 dd) := by rw [hV, hH2, World.cell?_alloc_at _ _ _ _ rfl]; rfl
      have e1 : V.cell? ⟨H2, 1, none⟩ = some (.int .i64 ky) := by rw [hV, hH2, World.cell?_alloc_at _ _ _ _ rfl]; rfl
      have e2 : V.cell? ⟨H2, 2, none⟩ = some (.bool on) := by rw [hV, hH2, World.cell?_alloc_at _ _ _ _ rfl]; rfl
      have kV : Kp wr V := by rw [hV]; exact (Kp.refl wr).alloc _
      have HV : Hid (V = wr.alloc (.cells #[.int .i64 dd, .int .i64 ky, .bool on] 37) ∧ H2 = wr.heap.size) := ⟨hV, hH2⟩
      have HX : Hid (Tu w V a S [] ∧ Rk S M Z k) := ⟨(HQ.out.1.kp kV).1, HQ.out.2⟩
      clear hdd hky hon hV hH2 kV HQ hdo hko
      go_upto_region 7 with fail
      rw [← HV.out.1, ← HV.out.2]
      clear HV c0 c1 c2
      have hm31 := HM31.out ky
      obtain ⟨b, hb⟩ : ∃ b, b = ky % 32 := ⟨_, rfl⟩
      rw [← hb] at hm31
      have hb0 : 0 ≤ b ∧ b < 32 := by omega
      obtain ⟨r7, m7, ht1, hr1, hr2, ht2, hm1, hm2⟩ := HR7.out dd
      have HB := hid hb0
      have hbo : iOk b := by unfold iOk; omega
      clear hb hb0
      have hm7 : m7 = 2 ∨ m7 = 3 ∨ m7 = 4 ∨ m7 = 5 ∨ (m7 = 0 ∨ m7 = 1 ∨ m7 = 6) := by omega
      rcases hm7 with rfl | rfl | rfl | rfl | h7
      · have hC := HX.out.1.touch b
        go_wp2_with fail
        refine hC.mono ?_; rintro e v1 ⟨rfl, u2, _⟩
        have HX2 : Hid (Tu w v1 a (toS S b) [] ∧ Rk (toS S b) M Z (k + 1)) := ⟨u2, HX.out.2.touch HX.out.1.g b⟩
        clear hC u2 HX HB
        go_wp2
        go_roundw
        case rel => exact ⟨k + 1, _, by omega, by go_num, HX2⟩
        case measure => simp [intOf]; omega
      · have hC := HX.out.1.touch b
        go_wp2_with fail
        refine hC.mono ?_; rintro e v1 ⟨rfl, u2, _⟩
        have HX2 : Hid (Tu w v1 a (toS S b) [] ∧ Rk (toS S b) M Z (k + 1)) := ⟨u2, HX.out.2.touch HX.out.1.g b⟩
        clear hC u2 HX HB
        go_wp2
        go_roundw
        case rel => exact ⟨k + 1, _, by omega, by go_num, HX2⟩
        case measure => simp [intOf]; omega
      · have hC := HX.out.1.pin (by have := HX.out.2.n; omega) b on
        go_wp2_with fail
        refine hC.mono ?_; rintro e v1 ⟨rfl, u2, _⟩
        have HX2 : Hid (Tu w v1 a (pnS S b on) [] ∧ Rk (pnS S b on) M Z (k + 1)) := ⟨u2, HX.out.2.pin b on⟩
        clear hC u2 HX HB
        go_wp2
        go_roundw
        case rel => exact ⟨k + 1, _, by omega, by go_num, HX2⟩
        case measure => simp [intOf]; omega
      · have hC := HX.out.1.drop b
        go_wp2_with fail
        refine hC.mono ?_; rintro e v1 ⟨rfl, u2, _⟩
        have HX2 : Hid (Tu w v1 a (drS S b) [] ∧ Rk (drS S b) M Z (k + 1)) := ⟨u2, HX.out.2.drop HX.out.1.g b⟩
        clear hC u2 HX HB
        go_wp2
        go_roundw
        case rel => exact ⟨k + 1, _, by omega, by go_num, HX2⟩
        case measure => simp [intOf]; omega
      · rcases h7 with rfl | rfl | rfl
        · have hC := HX.out.1.add hbo
          go_wp2_with fail
          refine hC.mono ?_; rintro e v1 ⟨rfl, u2, _⟩
          have HX2 : Hid (Tu w v1 a (adS S b) [] ∧ Rk (adS S b) M Z (k + 1)) := ⟨u2, HX.out.2.add HB.out⟩
          clear hC u2 HX HB
          go_wp2
          go_roundw
          case rel => exact ⟨k + 1, _, by omega, by go_num, HX2⟩
          case measure => simp [intOf]; omega
        · have hC := HX.out.1.add hbo
          go_wp2_with fail
          refine hC.mono ?_; rintro e v1 ⟨rfl, u2, _⟩
          have HX2 : Hid (Tu w v1 a (adS S b) [] ∧ Rk (adS S b) M Z (k + 1)) := ⟨u2, HX.out.2.add HB.out⟩
          clear hC u2 HX HB
          go_wp2
          go_roundw
          case rel => exact ⟨k + 1, _, by omega, by go_num, HX2⟩
          case measure => simp [intOf]; omega
        · have hC := HX.out.1.add hbo
          go_wp2_with fail
          refine hC.mono ?_; rintro e v1 ⟨rfl, u2, _⟩
          have HX2 : Hid (Tu w v1 a (adS S b) [] ∧ Rk (adS S b) M Z (k + 1)) := ⟨u2, HX.out.2.add HB.out⟩
          clear hC u2 HX HB
          go_wp2
          go_roundw
          case rel => exact ⟨k + 1, _, by omega, by go_num, HX2⟩
          case measure => simp [intOf]; omega
    · obtain rfl : k = kk := by omega
      have HE : Hid (Tu w wr a S [] ∧ Rn S x y ∧ Z = S.Z) := ⟨HQ.out.1, ⟨HQ.out.2.M.trans HR.out.1, by rw [HQ.out.2.Z, HQ.out.2.M]; exact HR.out.2, Nat.le_trans HQ.out.2.n hk80, HQ.out.2.ks⟩, HQ.out.2.Z.symm⟩
      clear HQ
      go_wp2
      go_ret3
      exact ⟨a, S, by rw [← HE.out.2.2]; rfl, HE.out.1, HE.out.2.1⟩

end Go.Proofs.Yteiangakgfekgaa
