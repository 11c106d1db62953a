/-
  BoardEpochs (P17.2 to P17.4): each change that is OK, and each Open, raises the epoch by one; what is refused doesn't. No condition.
-/
import Derived.Test.YtinpkfdmellleaaGreatRows
import Derived.Test.YtinpkfdmellleaaGreatZBase
import Derived.Test.YtinpkfdmellleaaGreatZBdEp
import Derived.WalkKit
import Derived.ProofKit
import Derived.OpenShut
import Derived.ShutString
import Derived.Deep.QuietTactic
import Derived.BigQuiet
import Derived.Deep.RegionWith
import Derived.Deep.RegionHeld3
import Derived.Deep.CutRange
import Derived.Deep.DeepCutAuto
import Derived.Deep.CutBlock
namespace Go.Proofs.YtinpkfdmellleaaGreat.boardEpochs
open Go.ChangeShapes Go.WideShapes Go.ChangeAt Go.RowKit
open Go.ChangeMaps (open_string shut_string)
open Go.Proofs.YtinpkfdmellleaaGreat Plain
set_option linter.unusedVariables false

theorem own : ownKnob Tryz.prog.godebug = none := by kernel_rfl
theorem laidOut : laidOutB Tryz.prog = true := by kernel_rfl
theorem cellsI : Tryz.prog.cellsOf 3 = 1 := by kernel_rfl
theorem cellsJ : Tryz.prog.cellsOf 22 = 2 := by kernel_rfl
theorem mask3 (n : Int) : bits .and .i64 n 3 = n % 4 := by
  have h : (BitVec.ofInt 64 3).toNat = 2 ^ 2 - 1 := by decide
  have key : (BitVec.ofInt 64 n &&& BitVec.ofInt 64 3).toNat = (n % ((2 ^ 64 : Nat) : Int)).toNat % 2 ^ 2 := by
    rw [BitVec.toNat_and, BitVec.toNat_ofInt, h, Nat.and_two_pow_sub_one_eq_mod]
  show IntKind.i64.wrap ((BitVec.ofInt 64 n &&& BitVec.ofInt 64 3).toNat : Nat) = n % 4
  rw [key, IntKind.wrap_i64]
  omega
set_option maxRecDepth 100000 in
set_option maxHeartbeats 20000000 in
theorem walkN (w : World) (a0 b0 : Int) (ha : -9223372036854775808 ≤ a0 ∧ a0 ≤ 9223372036854775807) (hb : -9223372036854775808 ≤ b0 ∧ b0 ≤ 9223372036854775807) (v1 : Value) (l1 : List A5) (i1 : Acts5 w v1 l1) :
    Calls Tryz.prog 6 #[.agg #[.int .i64 a0, .int .i64 b0], v1] w fun e w' => e = .returned (.bool true) ∧ Kp w w' := by
  obtain ⟨q1, c1, rfl, _⟩ := i1.h
  obtain ⟨n1, hn1⟩ : ∃ n1, n1 = l1.length := ⟨_, rfl⟩
  have z1 : n1 ≤ c1 ∧ c1 ≤ 9223372036854775807 := by obtain ⟨a, cap, e, h1, h2, _⟩ := i1.h; simp only [Value.slice.injEq] at e; omega
  obtain ⟨z1, z2⟩ := z1
  rw [← hn1] at i1 ⊢
  have N1 := hid hn1
  have I1 := hid i1
  clear i1 hn1
  have hmin := @imin Tryz.prog
  obtain ⟨m1, e1⟩ : ∃ m : Nat, min (n1 : Int) 30 = (m : Int) := ⟨min n1 30, by omega⟩
  have hm1 : m1 ≤ n1 := by omega
  have hm3 : m1 ≤ 30 := by omega
  obtain ⟨W, hW⟩ : ∃ W, W = w.alloc (.cells #[.int .i64 a0, .int .i64 b0] 22) := ⟨_, rfl⟩
  have k0 : Hid (Kp w W) := by show Kp w W; rw [hW]; exact (Kp.refl w).alloc _
  have r1 : W.cell? ⟨w.heap.size, 0, none⟩ = some (.int .i64 a0) := by rw [hW, World.cell?_alloc_at _ _ _ _ rfl]; rfl
  have r2 : W.cell? ⟨w.heap.size, 1, none⟩ = some (.int .i64 b0) := by rw [hW, World.cell?_alloc_at _ _ _ _ rfl]; rfl
  have HW := hid hW
  have A := hid (bg_all a0 b0)
  have hBg := lbegin_any a0 b0 ha hb W
  clear hW ha hb
  go_enter Tryz.func6, Tryz.ntmps6
  go_upto_region 1 with fail
  rw [← HW.out]
  clear HW
  go_wp2_with fail
  refine hBg.mono ?_; rintro e wa ⟨v, x, b, r, y, T, sv, mv, rfl, px, k1⟩
  have P1 := hid px
  have K1 := hid k1
  clear hBg px k1 r1 r2
  go_wp2_with fail
  refine (wakes17 _).mono ?_; rintro e wb ⟨rfl, k2⟩
  have PB : Hid (PY W wb v x b T (bgK a0 b0) sv mv) := (P1.out.kp k2).py
  have KB : Hid (Kp W wb) := K1.out.trans k2
  have EB : Hid (Ep (bgK a0 b0) 0) := ⟨A.out.bo, by rw [A.out.k]; show (2 : Int) ≤ 2 + ((0 : Nat) : Int); omega, by have := A.out.g; omega⟩
  clear k2 P1 K1
  go_wp2_with fail
  go_loopw [32] (fun i wr => ∃ (k : Nat) (K : KS) (x : Nat) (T : List Nat) (sv mv : Value), k ≤ m1 ∧ i = .int .i64 k ∧ Hid (PY W wr v x b T K sv mv) ∧ Hid (Ep K k) ∧ Hid (Kp W wr)) (fun i _ => m1 - (intOf i).toNat)
  case atStart => exact ⟨0, _, x, T, sv, mv, by omega, by go_num, PB, EB, KB⟩
  case round =>
    clear PB EB KB
    obtain ⟨k, K, x, T, sv, mv, hk, rfl, PR, EK, KR⟩ := hrel
    by_cases hlt : k < m1
    · have hks : k < l1.length := by rw [← N1.out]; omega
      obtain ⟨qa, qc, eq, z1_, z2_, hq⟩ := (I1.out.kp (k0.out.trans KR.out)).take m1 (by rw [← N1.out]; exact hm1)
      obtain ⟨g, off, hqq, hrg⟩ := hq (by omega)
      simp only [Value.slice.injEq] at eq
      obtain rfl : q1 = some ⟨g, off, none⟩ := eq.1.trans hqq
      obtain ⟨f0, f1, f2, f3, f4⟩ := a5_cells (hrg k hlt)
      have fok := I1.out.ok k hks
      obtain ⟨a_, ha_⟩ : ∃ a_, a_ = l1.getD k noA5 := ⟨_, rfl⟩
      rw [← ha_] at f0 f1 f2 f3 f4 fok
      obtain ⟨op_, m_, t_, o_, kv_, KK_⟩ := a_
      simp only at f0 f1 f2 f3 f4
      have hkl : KL w kv_ KK_ := fok.k
      obtain ⟨va, vc, hva, z3_⟩ := hkl.h
      subst hva
      obtain ⟨vn, hvn⟩ : ∃ vn, vn = KK_.length := ⟨_, rfl⟩
      rw [← hvn] at f4
      clear ha_ eq hqq hrg fok z1_ z2_ hq z3_ hvn hkl
      obtain ⟨Wb, hWb⟩ : ∃ Wb, Wb = wr.alloc (.cells #[.int .i64 op_, .int .i64 m_, .int .i64 t_, .bool o_, .slice va vn vc] 30) := ⟨_, rfl⟩
      have kb : Kp wr Wb := by rw [hWb]; exact (Kp.refl wr).alloc _
      have CB : Hid (Wb.cell? ⟨wr.heap.size, 0, none⟩ = some (.int .i64 op_) ∧ Wb.cell? ⟨wr.heap.size, 1, none⟩ = some (.int .i64 m_) ∧ Wb.cell? ⟨wr.heap.size, 2, none⟩ = some (.int .i64 t_)) := by
        refine ⟨?_, ?_, ?_⟩ <;> (rw [hWb, World.cell?_alloc_at _ _ _ _ rfl]; rfl)
      have HWb := hid hWb
      have PBb : Hid (PY W Wb v x b T K sv mv) := PR.out.kp kb
      have KBb : Hid (Kp W Wb) := KR.out.trans kb
      have c0b := PBb.out.c0
      have hLv := bw_live PBb.out.kx.bay
      have hTl : Hid (∀ t, t ∈ x :: T → t < wr.heap.size) := fun t ht => by
        rcases List.mem_cons.1 ht with e | e
        · rw [e]; exact PR.out.kx.hx
        · exact OL.bw.low PR.out.kx.bay t e
      have hvl : Hid (v < wr.heap.size) := PR.out.lt
      have hBn : Hid (wr.heap.size ∉ T) := fun ht => by have := hTl.out _ (List.mem_cons_of_mem _ ht); omega
      clear hWb kb PR
      go_upto_region 7 with fail
      rw [← HWb.out]
      clear HWb f0 f1 f2 f3 f4
      go_wp2_with fail
      refine hLv.mono ?_; rintro e wc ⟨lv, rfl, hlv, hBc, sc⟩
      have PC : Hid (PY W wc v x b T K sv mv) := PBb.out.bay hBc sc
      have KC : Hid (Kp W wc) := Sp.kp KBb.out sc (OL.bw.new PBb.out.kx.bay)
      have CC : Hid (wc.cell? ⟨wr.heap.size, 0, none⟩ = some (.int .i64 op_) ∧ wc.cell? ⟨wr.heap.size, 1, none⟩ = some (.int .i64 m_) ∧ wc.cell? ⟨wr.heap.size, 2, none⟩ = some (.int .i64 t_)) := ⟨sc.held CB.out.1 hBn.out, sc.held CB.out.2.1 hBn.out, sc.held CB.out.2.2 hBn.out⟩
      obtain ⟨la, lg_, lc, rfl, hl1, hl2, _, _⟩ := hlv
      obtain ⟨M, hM⟩ : ∃ M, M = (lvL 0 K.b.ms).length := ⟨_, rfl⟩
      have HM := hid hM
      rw [← hM] at hl1 ⊢
      clear hLv hBc sc hM CB PBb KBb c0b
      by_cases hM2 : M < 2
      · go_wp2
        go_ret
        exact ⟨rfl, k0.out.trans KC.out⟩
      · have hM2i : ¬ (M : Int) < 2 := by omega
        obtain ⟨ls1, ls2, ls3, ls4, ls5, ls6⟩ := EK.out.lens
        have hLa := label_any PC.out.kx (by omega) (by omega)
        have vc1 := PC.out.c1
        unfold lV at hLa
        go_wp2_with fail
        refine hLa.mono ?_; rintro e wd ⟨y1, y2, rfl, tw, kd⟩
        obtain ⟨g1, d1, g2, d2, rfl, rfl, p1, p2, p3, p4, _, _, _, cc1, _⟩ := tw.shape (by omega) (by omega)
        have lo1 := tw.lo1 g1 rfl
        obtain ⟨N, hN⟩ : ∃ N, N = K.l.sts.length := ⟨_, rfl⟩
        obtain ⟨NM, hNM⟩ : ∃ N, N = K.l.mks.length := ⟨_, rfl⟩
        have HN := hid hN
        rw [← hN] at p1 cc1 ls1 ls3 ⊢
        rw [← hNM] at p3 ls2 ls4 ⊢
        have HLS : Hid ((N : Int) = K.l.n ∧ (NM : Int) = K.l.n ∧ (K.b.ms.length : Int) = K.l.n) := ⟨ls3, ls4, ls6⟩
        have hN4 : 4 ≤ N := by omega
        clear ls3 ls4 ls6 hN hNM
        have KD : Hid (Kp W wd) := KC.out.trans kd
        have hcd : Hid (wr.heap.size < wd.heap.size ∧ v < wd.heap.size) := ⟨Nat.lt_of_lt_of_le (World.block_lt_of_cell? _ _ CC.out.1) kd.size, Nat.lt_of_lt_of_le PC.out.lt kd.size⟩
        obtain ⟨We, hWe⟩ : ∃ We, We = wd.alloc (.cells #[.int .i64 K.l.n, .int .i64 K.l.s, .int .i64 K.l.ep, .slice (some ⟨g1, 0, none⟩) N d1, .slice (some ⟨g2, 0, none⟩) NM d2] 63) := ⟨_, rfl⟩
        have ke : Kp wd We := by rw [hWe]; exact (Kp.refl wd).alloc _
        have LE : Lc We wd.heap.size K.l.n K.l.s K.l.ep (.slice (some ⟨g1, 0, none⟩) N d1) (.slice (some ⟨g2, 0, none⟩) NM d2) := by rw [hWe]; exact Lc.new wd _ _ _ _ _ _
        have HWe := hid hWe
        have PE : Hid (PY W We v x b T K sv mv) := (PC.out.kp kd).kp ke
        have KE : Hid (Kp W We) := KD.out.trans ke
        have CE : Hid (We.cell? ⟨wr.heap.size, 0, none⟩ = some (.int .i64 op_) ∧ We.cell? ⟨wr.heap.size, 1, none⟩ = some (.int .i64 m_) ∧ We.cell? ⟨wr.heap.size, 2, none⟩ = some (.int .i64 t_)) := ⟨ke.held (kd.held CC.out.1), ke.held (kd.held CC.out.2.1), ke.held (kd.held CC.out.2.2)⟩
        have HLE := hid LE
        have Hcc : Hid (∀ j, j < N → We.cell? ⟨g1, j, none⟩ = some (.int .i64 (K.l.sts.getD j 0))) := fun j hj => ke.held (cc1 j hj)
        have hTw : Hid (wd.heap.size ∉ T ∧ g1 ∉ T) := ⟨fun ht => by have := hTl.out _ (List.mem_cons_of_mem _ ht); have := hcd.out.1; omega, fun ht => by
          have h1 := hTl.out _ (List.mem_cons_of_mem _ ht)
          have h2 := lo1.1
          have h3 : wr.heap.size < wc.heap.size := World.block_lt_of_cell? _ _ CC.out.1
          omega⟩
        clear hLa tw kd ke cc1 hWe PC KC CC LE vc1
        go_upto_region 9 with fail
        rw [← HWe.out]
        clear HWe
        obtain ⟨kb, hkb⟩ : ∃ kb, kb = (decide (inK K m_) && knK K m_) := ⟨_, rfl⟩
        have HKb := hid hkb
        clear hkb
        go_cut [11] (fun p V => p = .bool kb ∧ Hid (PY W V v x b T K sv mv) ∧ Hid (Sp T We V))
        case first =>
          have hR : R1 W We v x b T K sv mv We.drew := ⟨PE.out.kp (Kp.refl _).drew, (Kp.refl _).drew.sp T⟩
          have qm := fun p => (prw_ok hR p).2.held CE.out.2.1 hBn.out
          have qn := fun p => (prw_ok hR p).2.held HLE.out.c0 hTw.out.1
          have qs := fun p => (prw_ok hR p).2.held HLE.out.c3 hTw.out.1
          have qv := fun p => (prw_ok hR p).1.c0
          by_cases h0 : 0 ≤ m_
          · by_cases h1 : m_ < K.l.n
            · obtain ⟨mm, rfl⟩ : ∃ mm : Nat, m_ = mm := ⟨m_.toNat, by omega⟩
              have hmN : mm < N := by have := HLS.out.1; omega
              have hin : inK K (mm : Int) := ⟨h0, h1⟩
              have hs1 := Hcc.out mm hmN
              obtain ⟨S1, hS1⟩ : ∃ S, S = K.l.sts.getD mm 0 := ⟨_, rfl⟩
              rw [← hS1] at hs1
              have HS1 := hid hS1
              have hcm : ((mm : Int) < (N : Int)) := by omega
              have hcd1 : mm < d1 := by omega
              have qg := fun p => (prw_ok hR p).2.held hs1 hTw.out.2
              clear hS1
              by_cases hs : S1 = 1
              · have hfd : fdE K.b (mm : Int) = 0 := fd_in (by omega) (by have := HLS.out.2.2; omega)
                obtain ⟨m2, X2, F2, hTT, hbx⟩ := PE.out.kx.bay
                obtain ⟨xm, hxm⟩ : ∃ y, y = X2.getD ((mm : Int)).toNat 0 := ⟨_, rfl⟩
                obtain ⟨dd, hdd⟩ : ∃ d, d = (bm K.b (mm : Int)).dead := ⟨_, rfl⟩
                have hkk : kb = dd := by
                  rw [HKb.out, decide_eq_true hin, Bool.true_and]
                  unfold knK
                  rw [Int.toNat_natCast, ← HS1.out, hs, decide_eq_true rfl, Bool.true_and, hdd]
                have hR2 : R2 W We v x b T K sv mv m2 X2 F2 We.drew := ⟨PE.out.kp (Kp.refl _).drew, (Kp.refl _).drew.sp T, hbx.kp (Kp.refl _).drew⟩
                have rm := fun p => (prw_ok hR2 p).2.1.held CE.out.2.1 hBn.out
                have rn := fun p => (prw_ok hR2 p).2.1.held HLE.out.c0 hTw.out.1
                have rs := fun p => (prw_ok hR2 p).2.1.held HLE.out.c3 hTw.out.1
                have rv := fun p => (prw_ok hR2 p).1.c0
                have rg := fun p => (prw_ok hR2 p).2.1.held hs1 hTw.out.2
                have hMe : ∀ V, R2 W We v x b T K sv mv m2 X2 F2 V → Calls Tryz.prog 16 #[.pointer (some ⟨b, 0, none⟩), .int .i64 (mm : Int)] V fun e V' => e = .returned (.pointer (some ⟨xm, 0, none⟩)) ∧ R2 W We v x b T K sv mv m2 X2 F2 V' := fun V q => by
                  rw [hxm]
                  exact (bx_member q.2.2 hfd).mono fun e V' ⟨he, hv⟩ => ⟨he, by rw [hv]; exact q⟩
                have hDe : ∀ V, R2 W We v x b T K sv mv m2 X2 F2 V → Calls Tryz.prog 36 #[.pointer (some ⟨xm, 0, none⟩)] V fun e V' => e = .returned (.bool dd) ∧ R2 W We v x b T K sv mv m2 X2 F2 V' := fun V q => by
                  rw [hdd, hxm]
                  refine (bx_dead q.2.2 hfd).mono ?_
                  rintro e V' ⟨rfl, h1, h2⟩
                  have s2 : Sp T V V' := h2.mono (fun t ht => by rw [hTT]; simp [ht])
                  exact ⟨rfl, q.1.bay ⟨m2, X2, F2, hTT, h1⟩ s2, q.2.1.trans s2, h1⟩
                have HM2 := hid hMe
                have HD2 := hid hDe
                subst hs
                subst hkk
                clear hdd hxm hbx hTT qm qn qs qv qg hMe hDe hR
                refine wp_region_pr (R2 W We v x b T K sv mv m2 X2 F2) hR2 (by kernel_rfl) (by kernel_rfl) ?_
                repeat (first
                  | go_big_quiet_skip
                  | (go_big_quiet_want; go_big_quiet_op; go_big_quiet_on)
                  | (go_big_quiet_want; go_big_quiet_op; apply Exists.intro; refine ⟨fun p => ?_, ?_⟩; (focus
                      first
                      | (go_at_call 16; exact pr_call (HM2.out _ (prw_ok hR2 p)))
                      | (go_at_call 36; exact pr_call (HD2.out _ (prw_ok hR2 p)))); go_big_quiet_on))
                refine wpQuiet_nil ?_
                rintro wz ⟨p, hp⟩
                have hz : R2 W We v x b T K sv mv m2 X2 F2 wz := by rw [hp]; exact prw_ok hR2 p
                clear hp
                go_wp2
                go_meet
                exact ⟨rfl, hz.1, hz.2.1⟩
              · have hS1b : (S1 == 1) = false := by simpa using hs
                have hkf : kb = false := by
                  rw [HKb.out]; unfold knK; rw [Int.toNat_natCast, ← HS1.out, decide_eq_false hs, Bool.false_and, Bool.and_false]
                subst hkf
                refine wp_region_pr (R1 W We v x b T K sv mv) hR (by kernel_rfl) (by kernel_rfl) ?_
                repeat (first
                  | go_big_quiet_skip
                  | (go_big_quiet_want; go_big_quiet_op; go_big_quiet_on))
                refine wpQuiet_nil ?_
                rintro wz ⟨p, hp⟩
                have hz : R1 W We v x b T K sv mv wz := by rw [hp]; exact prw_ok hR p
                clear hp
                go_wp2
                go_meet
                exact ⟨rfl, hz.1, hz.2⟩
            · have hni : ¬ inK K m_ := fun h => h1 h.2
              have hkf : kb = false := by rw [HKb.out, decide_eq_false hni, Bool.false_and]
              subst hkf
              refine wp_region_pr (R1 W We v x b T K sv mv) hR (by kernel_rfl) (by kernel_rfl) ?_
              repeat (first
                | go_big_quiet_skip
                | (go_big_quiet_want; go_big_quiet_op; go_big_quiet_on))
              refine wpQuiet_nil ?_
              rintro wz ⟨p, hp⟩
              have hz : R1 W We v x b T K sv mv wz := by rw [hp]; exact prw_ok hR p
              clear hp
              go_wp2
              go_meet
              exact ⟨rfl, hz.1, hz.2⟩
          · have hni : ¬ inK K m_ := fun h => h0 h.1
            have hkf : kb = false := by rw [HKb.out, decide_eq_false hni, Bool.false_and]
            subst hkf
            refine wp_region_pr (R1 W We v x b T K sv mv) hR (by kernel_rfl) (by kernel_rfl) ?_
            repeat (first
              | go_big_quiet_skip
              | (go_big_quiet_want; go_big_quiet_op; go_big_quiet_on))
            refine wpQuiet_nil ?_
            rintro wz ⟨p, hp⟩
            have hz : R1 W We v x b T K sv mv wz := by rw [hp]; exact prw_ok hR p
            clear hp
            go_wp2
            go_meet
            exact ⟨rfl, hz.1, hz.2⟩
        case rest =>
          obtain ⟨rfl, PZ, SZ⟩ := hcut
          rename World => Z
          have KZ : Hid (Kp W Z) := Sp.kp KE.out SZ.out (OL.bw.new PE.out.kx.bay)
          have CZ : Hid (Z.cell? ⟨wr.heap.size, 0, none⟩ = some (.int .i64 op_) ∧ Z.cell? ⟨wr.heap.size, 1, none⟩ = some (.int .i64 m_) ∧ Z.cell? ⟨wr.heap.size, 2, none⟩ = some (.int .i64 t_) ∧ Z.cell? ⟨wd.heap.size, 2, none⟩ = some (.int .i64 K.l.ep)) := ⟨SZ.out.held CE.out.1 hBn.out, SZ.out.held CE.out.2.1 hBn.out, SZ.out.held CE.out.2.2 hBn.out, SZ.out.held HLE.out.c2 hTw.out.1⟩
          have hxn : Hid (wr.heap.size ∉ x :: T ∧ wd.heap.size ∉ x :: T) := ⟨fun hm => by have := hTl.out _ hm; omega, fun hm => by have := hTl.out _ hm; have := hcd.out.1; omega⟩
          have zop := CZ.out.1
          have hms := mask3 op_
          have hop : Hid (op_ % 4 = 0 ∨ op_ % 4 = 1 ∨ op_ % 4 = 2 ∨ op_ % 4 = 3) := by show _ ∨ _; omega
          clear Hcc HLE PE KE CE SZ
          go_upto_block 2 with fail
          go_cut [10, 11, 80] (fun p _ _ V => ∃ (E : Int) (Kt : KS) (xt : Nat) (Tt : List Nat) (st mt : Value), p = .int .i64 E ∧ Hid (PY W V v xt b Tt Kt st mt) ∧ Hid (Step K Kt E) ∧ Hid (Ep Kt (k + 1)) ∧ Hid (Kp W V) ∧ Hid (V.cell? ⟨wd.heap.size, 2, none⟩ = some (.int .i64 K.l.ep)))
          case first =>
            have zop := CZ.out.1
            have hfe := field_ep
            rcases hop.out with e4 | e4 | e4 | e4
            · rw [e4] at hms
              have hFa : ∀ V, Kp Z V → Calls Tryz.prog 33 #[.pointer (some ⟨x, 0, none⟩), .int .i64 m_] V fun e V' => e = .returned (.int .i64 (bfE K m_)) ∧ Kz W Z V' x b T (bfK K m_) := fun V q => (bfail_any (PZ.out.kx.kp q) (KZ.out.trans q) (EK.out.ok (by omega)) m_).mono fun e V' ⟨he, hz⟩ => ⟨he, hz.from q⟩
              have hSS : ∀ V, Kp Z V → V.cell? ⟨v, 1, none⟩ = some (.pointer (some ⟨x, 0, none⟩)) ∧ V.cell? ⟨wr.heap.size, 1, none⟩ = some (.int .i64 m_) ∧ V.cell? ⟨wr.heap.size, 2, none⟩ = some (.int .i64 t_) := fun V q => ⟨q.held PZ.out.c1, q.held CZ.out.2.1, q.held CZ.out.2.2.1⟩
              have hSY : ∀ V, Kz W Z V x b T (bfK K m_) → V.cell? ⟨v, 1, none⟩ = some (.pointer (some ⟨x, 0, none⟩)) ∧ V.cell? ⟨wr.heap.size, 1, none⟩ = some (.int .i64 m_) ∧ V.cell? ⟨wr.heap.size, 2, none⟩ = some (.int .i64 t_) := fun V ⟨_, _, _, _, q, _⟩ => ⟨q.held PZ.out.c1 PZ.out.nv, q.held CZ.out.2.1 hxn.out.1, q.held CZ.out.2.2.1 hxn.out.1⟩
              obtain ⟨E, hE⟩ : ∃ E, E = bfE K m_ := ⟨_, rfl⟩
              obtain ⟨Kt, hKt⟩ : ∃ E, E = bfK K m_ := ⟨_, rfl⟩
              rw [← hE, ← hKt] at hFa
              rw [← hKt] at hSY
              have HE := hid hE
              have HKt := hid hKt
              have hr0 : Kp Z Z.drew := (Kp.refl _).drew
              clear hE hKt
              go_wp2_with fail
              go_region_held3 (fun V => V.cell? ⟨v, 1, none⟩ = some (.pointer (some ⟨x, 0, none⟩)) ∧ V.cell? ⟨wr.heap.size, 1, none⟩ = some (.int .i64 m_) ∧ V.cell? ⟨wr.heap.size, 2, none⟩ = some (.int .i64 t_)) (first | exact hSS _ (by assumption) | exact hSY _ (by assumption)) (first | (go_at_call 33; refine (hFa _ (by assumption)).mono ?_; rintro e wt ⟨rfl, zt⟩))
              have KT : Hid (Kp W wt) := zt.below PZ.out.kx KZ.out
              have CT : Hid (wt.cell? ⟨wd.heap.size, 2, none⟩ = some (.int .i64 K.l.ep)) := by
                obtain ⟨_, _, _, _, q, _⟩ := zt
                exact q.held CZ.out.2.2.2 hxn.out.2
              obtain ⟨Tt, st, mt, pt⟩ := PZ.out.kz zt
              have PT := hid pt
              clear hFa hSS hSY hr0 zt pt
              cases kb with
              | true =>
                have hkn : inK K m_ ∧ knK K m_ = true := by
                  have h1 := HKb.out
                  have h2 := (Bool.and_eq_true _ _).mp h1.symm
                  exact ⟨of_decide_eq_true h2.1, h2.2⟩
                have hKK : Kt = K := HKt.out.trans (ep_known EK.out m_ hkn)
                have ET : Hid (Ep Kt (k + 1)) := by rw [hKK]; exact EK.out.more
                have ST : Hid (Step K Kt 11) := .inr ⟨by decide, by rw [hKK]⟩
                clear hKK
                go_wp2
                go_meet
                exact ⟨11, Kt, x, Tt, st, mt, rfl, PT, ST, ET, KT, CT⟩
              | false =>
                have hkn : ¬ (inK K m_ ∧ knK K m_ = true) := fun h => by
                  have h1 := HKb.out
                  rw [decide_eq_true h.1, h.2] at h1
                  cases h1
                obtain ⟨st1, et1⟩ := ep_fail EK.out (by omega) m_ hkn
                rw [← HKt.out, ← HE.out] at st1
                rw [← HKt.out] at et1
                have ST := hid st1
                have ET := hid et1
                clear st1 et1
                go_wp2
                go_meet
                exact ⟨E, Kt, x, Tt, st, mt, rfl, PT, ST, ET, KT, CT⟩
            · rw [e4] at hms
              have hFa : ∀ V, Kp Z V → Calls Tryz.prog 32 #[.pointer (some ⟨x, 0, none⟩), .int .i64 m_] V fun e V' => e = .returned (.int .i64 (brE K m_)) ∧ Kz W Z V' x b T (brK K m_) := fun V q => (breplace_any (PZ.out.kx.kp q) (KZ.out.trans q) (EK.out.ok (by omega)) m_).mono fun e V' ⟨he, hz⟩ => ⟨he, hz.from q⟩
              have hSS : ∀ V, Kp Z V → V.cell? ⟨v, 1, none⟩ = some (.pointer (some ⟨x, 0, none⟩)) ∧ V.cell? ⟨wr.heap.size, 1, none⟩ = some (.int .i64 m_) ∧ V.cell? ⟨wr.heap.size, 2, none⟩ = some (.int .i64 t_) := fun V q => ⟨q.held PZ.out.c1, q.held CZ.out.2.1, q.held CZ.out.2.2.1⟩
              have hSY : ∀ V, Kz W Z V x b T (brK K m_) → V.cell? ⟨v, 1, none⟩ = some (.pointer (some ⟨x, 0, none⟩)) ∧ V.cell? ⟨wr.heap.size, 1, none⟩ = some (.int .i64 m_) ∧ V.cell? ⟨wr.heap.size, 2, none⟩ = some (.int .i64 t_) := fun V ⟨_, _, _, _, q, _⟩ => ⟨q.held PZ.out.c1 PZ.out.nv, q.held CZ.out.2.1 hxn.out.1, q.held CZ.out.2.2.1 hxn.out.1⟩
              obtain ⟨E, hE⟩ : ∃ E, E = brE K m_ := ⟨_, rfl⟩
              obtain ⟨Kt, hKt⟩ : ∃ E, E = brK K m_ := ⟨_, rfl⟩
              rw [← hE, ← hKt] at hFa
              rw [← hKt] at hSY
              have HE := hid hE
              have HKt := hid hKt
              have hr0 : Kp Z Z.drew := (Kp.refl _).drew
              clear hE hKt
              go_wp2_with fail
              go_region_held3 (fun V => V.cell? ⟨v, 1, none⟩ = some (.pointer (some ⟨x, 0, none⟩)) ∧ V.cell? ⟨wr.heap.size, 1, none⟩ = some (.int .i64 m_) ∧ V.cell? ⟨wr.heap.size, 2, none⟩ = some (.int .i64 t_)) (first | exact hSS _ (by assumption) | exact hSY _ (by assumption)) (first | (go_at_call 32; refine (hFa _ (by assumption)).mono ?_; rintro e wt ⟨rfl, zt⟩))
              have KT : Hid (Kp W wt) := zt.below PZ.out.kx KZ.out
              have CT : Hid (wt.cell? ⟨wd.heap.size, 2, none⟩ = some (.int .i64 K.l.ep)) := by
                obtain ⟨_, _, _, _, q, _⟩ := zt
                exact q.held CZ.out.2.2.2 hxn.out.2
              obtain ⟨Tt, st, mt, pt⟩ := PZ.out.kz zt
              have PT := hid pt
              clear hFa hSS hSY hr0 zt pt
              obtain ⟨st1, et1⟩ := ep_rep EK.out (by omega) m_
              rw [← HKt.out, ← HE.out] at st1
              rw [← HKt.out] at et1
              have ST := hid st1
              have ET := hid et1
              clear st1 et1
              go_wp2
              go_meet
              exact ⟨E, Kt, x, Tt, st, mt, rfl, PT, ST, ET, KT, CT⟩
            · rw [e4] at hms
              have hFa : ∀ V, Kp Z V → Calls Tryz.prog 30 #[.pointer (some ⟨x, 0, none⟩), .int .i64 m_, .int .i64 t_] V fun e V' => e = .returned (.int .i64 (baE K m_ t_)) ∧ Kz W Z V' x b T (baK K m_ t_) := fun V q => (advance_any (PZ.out.kx.kp q) (KZ.out.trans q) (EK.out.ok (by omega)) m_ t_).mono fun e V' ⟨he, hz⟩ => ⟨he, hz.from q⟩
              have hSS : ∀ V, Kp Z V → V.cell? ⟨v, 1, none⟩ = some (.pointer (some ⟨x, 0, none⟩)) ∧ V.cell? ⟨wr.heap.size, 1, none⟩ = some (.int .i64 m_) ∧ V.cell? ⟨wr.heap.size, 2, none⟩ = some (.int .i64 t_) := fun V q => ⟨q.held PZ.out.c1, q.held CZ.out.2.1, q.held CZ.out.2.2.1⟩
              have hSY : ∀ V, Kz W Z V x b T (baK K m_ t_) → V.cell? ⟨v, 1, none⟩ = some (.pointer (some ⟨x, 0, none⟩)) ∧ V.cell? ⟨wr.heap.size, 1, none⟩ = some (.int .i64 m_) ∧ V.cell? ⟨wr.heap.size, 2, none⟩ = some (.int .i64 t_) := fun V ⟨_, _, _, _, q, _⟩ => ⟨q.held PZ.out.c1 PZ.out.nv, q.held CZ.out.2.1 hxn.out.1, q.held CZ.out.2.2.1 hxn.out.1⟩
              obtain ⟨E, hE⟩ : ∃ E, E = baE K m_ t_ := ⟨_, rfl⟩
              obtain ⟨Kt, hKt⟩ : ∃ E, E = baK K m_ t_ := ⟨_, rfl⟩
              rw [← hE, ← hKt] at hFa
              rw [← hKt] at hSY
              have HE := hid hE
              have HKt := hid hKt
              have hr0 : Kp Z Z.drew := (Kp.refl _).drew
              clear hE hKt
              go_wp2_with fail
              go_region_held3 (fun V => V.cell? ⟨v, 1, none⟩ = some (.pointer (some ⟨x, 0, none⟩)) ∧ V.cell? ⟨wr.heap.size, 1, none⟩ = some (.int .i64 m_) ∧ V.cell? ⟨wr.heap.size, 2, none⟩ = some (.int .i64 t_)) (first | exact hSS _ (by assumption) | exact hSY _ (by assumption)) (first | (go_at_call 30; refine (hFa _ (by assumption)).mono ?_; rintro e wt ⟨rfl, zt⟩))
              have KT : Hid (Kp W wt) := zt.below PZ.out.kx KZ.out
              have CT : Hid (wt.cell? ⟨wd.heap.size, 2, none⟩ = some (.int .i64 K.l.ep)) := by
                obtain ⟨_, _, _, _, q, _⟩ := zt
                exact q.held CZ.out.2.2.2 hxn.out.2
              obtain ⟨Tt, st, mt, pt⟩ := PZ.out.kz zt
              have PT := hid pt
              clear hFa hSS hSY hr0 zt pt
              obtain ⟨st1, et1⟩ := ep_adv EK.out (by omega) m_ t_
              rw [← HKt.out, ← HE.out] at st1
              rw [← HKt.out] at et1
              have ST := hid st1
              have ET := hid et1
              clear st1 et1
              go_wp2
              go_meet
              exact ⟨E, Kt, x, Tt, st, mt, rfl, PT, ST, ET, KT, CT⟩
            · rw [e4] at hms
              obtain ⟨o1, o2, o3, o4⟩ := ep_open EK.out (by omega) (by rw [← HM.out]; omega)
              have hOp := open_any PZ.out.kx.bay KZ.out EK.out.bo.ev o2 (by have := EK.out.g; omega)
              rw [o1] at hOp
              have zv0 := PZ.out.c0
              obtain ⟨Kt, hKt⟩ : ∃ E, E = opnK K.b := ⟨_, rfl⟩
              rw [← hKt] at hOp o3 o4
              have ST := hid o3
              have ET := hid o4
              clear o1 o2 o3 o4 hKt
              go_wp2_with fail
              refine hOp.mono ?_; rintro e ws ⟨pp, rfl, hx, _⟩
              obtain ⟨xt, rfl, hxw, Tt, st, mt, X3, t3, n3, hl3⟩ := hx rfl
              have hvT : v ∉ T := fun ht => PZ.out.nv (List.mem_cons_of_mem _ ht)
              have sv1 : ws.cell? ⟨v, 1, none⟩ = some (.pointer (some ⟨x, 0, none⟩)) := t3.held PZ.out.c1 hvT
              have fzs : ∀ o, ws.frozen? ⟨v, o, none⟩ = false := fun o => (t3.frozen PZ.out.lt hvT o).trans (PZ.out.fz o)
              have SV : Sp [v] ws (ws.setCell ⟨v, 1, none⟩ (.pointer (some ⟨xt, 0, none⟩))) := (Sp.refl _ _).set v 1 (by simp) _
              have hvZ := PZ.out.lt
              have hvTt : v ∉ xt :: Tt := fun hm => by
                rcases List.mem_cons.1 hm with e | e
                · omega
                · exact nw_nt n3 hvZ hvT e
              have PT : Hid (PY W (ws.setCell ⟨v, 1, none⟩ (.pointer (some ⟨xt, 0, none⟩))) v xt b Tt Kt st mt) := by
                refine ⟨?_, ?_, fun o => ?_, X3.sp SV (fun t ht hm => hvTt (by rw [← List.mem_singleton.1 hm]; exact ht)) (fun q hq hm => ?_) (fun q hq hm => ?_), hvTt, PZ.out.lv⟩
                · rw [set_other _ _ _ _ _ (by omega)]; exact t3.held PZ.out.c0 hvT
                · exact set_same _ sv1
                · rw [World.frozen?_setCell]; exact fzs o
                · have := hl3 q (.inl hq); have := List.mem_singleton.1 hm; omega
                · have := hl3 q (.inr hq); have := List.mem_singleton.1 hm; omega
              have KS1 : Kp W ws := Sp.kp KZ.out t3 (OL.bw.new PZ.out.kx.bay)
              have KT : Hid (Kp W (ws.setCell ⟨v, 1, none⟩ (.pointer (some ⟨xt, 0, none⟩)))) := Sp.kp KS1 SV (fun t ht => by rw [List.mem_singleton.1 ht]; exact PZ.out.lv)
              have hwdT : wd.heap.size ∉ T := fun ht => hxn.out.2 (List.mem_cons_of_mem _ ht)
              have CT : Hid ((ws.setCell ⟨v, 1, none⟩ (.pointer (some ⟨xt, 0, none⟩))).cell? ⟨wd.heap.size, 2, none⟩ = some (.int .i64 K.l.ep)) := SV.held (t3.held CZ.out.2.2.2 hwdT) (by have := hcd.out.2; simp; omega)
              clear hOp X3 t3 n3 hl3 SV KS1 hxw
              go_wp2
              go_meet
              exact ⟨0, Kt, xt, Tt, st, mt, rfl, PT, ST, ET, KT, CT⟩
          case rest =>
            obtain ⟨E, Kt, xt, Tt, st, mt, rfl, PT, ST, ET, KT, CT⟩ := hcut
            have hfe := field_ep
            clear hms hop zop PZ KZ CZ
            have hep0 := EK.out.e
            have hep1 : 1 ≤ K.l.ep := ((lg_iff _).1 EK.out.bo.good).2.1
            rcases ST.out with ⟨hE0, hep⟩ | ⟨hE0, hep⟩
            · subst hE0
              have hL1 := label_any PT.out.kx (by have := ET.out.lens; omega) (by have := ET.out.lens; omega)
              unfold lV at hL1
              rw [hep] at hL1
              have vt1 := PT.out.c1
              have cT := CT.out
              go_wp2_with fail
              refine hL1.mono ?_; rintro e wu ⟨y1, y2, rfl, tw, ku⟩
              obtain ⟨f1, f2, f3, rfl⟩ := tw.1.shape
              obtain ⟨f4, f5, f6, rfl⟩ := tw.2.1.shape
              have PU : Hid (PY W wu v xt b Tt Kt st mt) := PT.out.kp ku
              have KU : Hid (Kp W wu) := KT.out.trans ku
              have cU := ku.held CT.out
              have vu1 := PU.out.c1
              have hL2 := label_any PU.out.kx (by have := ET.out.lens; omega) (by have := ET.out.lens; omega)
              unfold lV at hL2
              clear hL1 tw ku vt1 cT
              go_wp2_with fail
              refine hL2.mono ?_; rintro e wv ⟨y3, y4, rfl, tw2, kv⟩
              have hGd := lgood_any Kt.l y3 y4 wv tw2.n1 tw2.n2
              rw [ET.out.bo.good] at hGd
              unfold lV at hGd
              rw [hep] at hGd
              have PV : Hid (PY W wv v xt b Tt Kt st mt) := PU.out.kp kv
              have KV : Hid (Kp W wv) := KU.out.trans kv
              clear hL2 tw2 kv vu1
              go_wp2_with fail
              refine hGd.mono ?_; rintro e ww ⟨rfl, kw⟩
              have PWw : Hid (PY W ww v xt b Tt Kt st mt) := PV.out.kp kw
              have KWw : Hid (Kp W ww) := KV.out.trans kw
              clear hGd kw
              go_wp2
              go_roundw
              case rel =>
                exact ⟨k + 1, Kt, xt, Tt, st, mt, by omega, by go_num, PWw, ET, KWw⟩
              case measure => simp [intOf]; omega
            · have hEb : (E == 0) = false := by simpa using hE0
              have hL1 := label_any PT.out.kx (by have := ET.out.lens; omega) (by have := ET.out.lens; omega)
              unfold lV at hL1
              rw [hep] at hL1
              have vt1 := PT.out.c1
              have cT := CT.out
              go_wp2_with fail
              refine hL1.mono ?_; rintro e wu ⟨y1, y2, rfl, tw, ku⟩
              obtain ⟨f1, f2, f3, rfl⟩ := tw.1.shape
              obtain ⟨f4, f5, f6, rfl⟩ := tw.2.1.shape
              have PU : Hid (PY W wu v xt b Tt Kt st mt) := PT.out.kp ku
              have KU : Hid (Kp W wu) := KT.out.trans ku
              have cU := ku.held CT.out
              have vu1 := PU.out.c1
              have hL2 := label_any PU.out.kx (by have := ET.out.lens; omega) (by have := ET.out.lens; omega)
              unfold lV at hL2
              clear hL1 tw ku vt1 cT
              go_wp2_with fail
              refine hL2.mono ?_; rintro e wv ⟨y3, y4, rfl, tw2, kv⟩
              have hGd := lgood_any Kt.l y3 y4 wv tw2.n1 tw2.n2
              rw [ET.out.bo.good] at hGd
              unfold lV at hGd
              rw [hep] at hGd
              have PV : Hid (PY W wv v xt b Tt Kt st mt) := PU.out.kp kv
              have KV : Hid (Kp W wv) := KU.out.trans kv
              clear hL2 tw2 kv vu1
              go_wp2_with fail
              refine hGd.mono ?_; rintro e ww ⟨rfl, kw⟩
              have PWw : Hid (PY W ww v xt b Tt Kt st mt) := PV.out.kp kw
              have KWw : Hid (Kp W ww) := KV.out.trans kw
              clear hGd kw
              go_wp2
              go_roundw
              case rel =>
                exact ⟨k + 1, Kt, xt, Tt, st, mt, by omega, by go_num, PWw, ET, KWw⟩
              case measure => simp [intOf]; omega
    · go_wp2
      go_ret
      exact ⟨rfl, k0.out.trans KR.out⟩
theorem walk (w : World) (a0 b0 : Int) (a1 : Value) (l1 : List A5) (w0 : (Lit.int .i64 a0).wf = true) (x0 : (Lit.int .i64 b0).wf = true) (w1 : Acts5 w a1 l1) :
    Calls Tryz.prog 6 #[.agg #[.int .i64 a0, .int .i64 b0], a1] w fun e w' => e = .returned (.bool true) ∧ Kp w w' := by
  exact walkN w a0 b0 (bounds_i64 w0) (bounds_i64 x0) a1 l1 w1

set_option maxRecDepth 100000 in
theorem lifted (os : Os) (started : os.Started) (H : Type) (enc : TypeId × Value → H) :
    ReturnsInHanded {} Tryz.checked os 6 .any (Rows.boardEpochsSpec.pre6 enc Tryz.prog Tryz.f6 Rows.boardEpochsRow.domain false) (Rows.boardEpochsSpec.post enc Tryz.prog Tryz.f6 false true false false) := by
  refine returnsInHanded_of_change (C := Tryz.checked) own started (by kernel_rfl) Tryz.func6
    (ChangeSpec.witness6 (enc := enc) (C := Tryz.checked) false ⟨#[], #[.agg #[.int .i64 0, .int .i64 0], .slice none 0 0], []⟩ 8 (by kernel_rfl) (by kernel_rfl) (by kernel_rfl) (by kernel_rfl)) ?_
  intro W base args ds gs before hval0 hW hcnd _
  have hval : ∀ (j : Nat) t v, Tryz.f6.params[j]? = some t → args[j]? = some v → Value.okWide Tryz.prog W .any base t v := hval0
  have hW' := hW
  have hlt := hW.lt
  obtain ⟨p, q, hA0, hV, rfl, hfz, hnd⟩ := hW
  have hA : DataW.TrodAll enc Tryz.prog W 0 (fun _ => true) true Tryz.f6.params.toList args.toList ds p := hA0
  have hAk := hA
  rw [Tryz.params6] at hA hval
  obtain ⟨v0, vs0, d0, ds0, p0, q0, hargs, rfl, rfl, h0, r0⟩ := trodAll_cons hA
  obtain ⟨v1, vs1, d1, ds1, p1, q1, rfl, rfl, rfl, h1, r1⟩ := trodAll_cons r0
  obtain ⟨rfl, rfl, rfl⟩ := trodAll_nil r1
  obtain rfl : args = #[v0, v1] := by cases args; simp_all
  obtain ⟨rfl, rfl⟩ := trodVars_none hV
  obtain ⟨a0, b0, rfl, w0, x0⟩ := open_ints2 Tryz.underlying22 Tryz.underlying3 cellsI cellsJ (hval 0 22 v0 rfl rfl) h0
  obtain ⟨l1, w1⟩ := open_as5 (hval 1 23 v1 rfl rfl) h1
  clear hA0 hval0
  simp only [List.append_nil] at hW' hAk hlt
  refine (walk W a0 b0 v1 l1 w0 x0 w1).mono fun e W' ⟨he, hg⟩ => ?_
  subst he
  exact ⟨_, rfl, post_kp (pv := []) hW' (fun _ _ _ => (trodAll_cons_mk (shut_bool Tryz.underlying4 _) trodAll_mk0)) (fun sp hsp => trodAll_stays laidOut (by rw [Tryz.params6]; exact of_decide_eq_true (by kernel_rfl)) hAk (fun x hx => Below.same hg (hlt x hx)) hsp) (fun _ _ => rfl) (by simp) hg⟩

theorem over : Rows.boardEpochsRow.holds Tryz.pinned (OpenSpec.ofChange Rows.boardEpochsSpec) :=
  OpenClaim.holds_of_wide 6 Tryz.f6 rfl rfl rfl rfl rfl rfl rfl ⟨rfl, rfl, rfl, rfl, rfl⟩ rfl rfl rfl rfl rfl (by kernel_rfl) Tryz.func6 (by kernel_rfl)
    (of_decide_eq_true (by kernel_rfl)) (by unfold Func.isWrapper; first | (rw [if_pos (by decide +kernel)]; kernel_rfl) | (rw [if_neg (by decide +kernel)]; exact ⟨rfl, rfl⟩))
    (fun os started H enc _ => lifted os started H enc)

end Go.Proofs.YtinpkfdmellleaaGreat.boardEpochs
namespace Go.Proofs.YtinpkfdmellleaaGreat
theorem boardEpochs_holds : Rows.BoardEpochsSaid := boardEpochs.over
end Go.Proofs.YtinpkfdmellleaaGreat
