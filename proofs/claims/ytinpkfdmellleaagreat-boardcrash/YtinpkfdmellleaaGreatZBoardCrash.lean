/-
  BoardCrash (P17.5): a power cut in the last change and a crash; Open finds the label of before, or the one of behind. No condition.
-/
import Derived.Test.YtinpkfdmellleaaGreatRows
import Derived.Test.YtinpkfdmellleaaGreatZBase
import Derived.Test.YtinpkfdmellleaaGreatZBdCw
import Derived.WalkKit
import Derived.ProofKit
import Derived.OpenShut
import Derived.ShutString
import Derived.Deep.QuietTactic
import Derived.BigQuiet
import Derived.Deep.RegionWith
import Derived.Deep.RegionHeld3
import Derived.Deep.CutRange
import Derived.Deep.DeepCutAuto
import Derived.Deep.CutBlock
namespace Go.Proofs.YtinpkfdmellleaaGreat.boardCrash
open Go.ChangeShapes Go.WideShapes Go.ChangeAt Go.RowKit
open Go.ChangeMaps (open_string shut_string)
open Go.Proofs.YtinpkfdmellleaaGreat Plain
set_option linter.unusedVariables false

theorem own : ownKnob Tryz.prog.godebug = none := by kernel_rfl
theorem laidOut : laidOutB Tryz.prog = true := by kernel_rfl
theorem cellsI : Tryz.prog.cellsOf 3 = 1 := by kernel_rfl
theorem cellsJ : Tryz.prog.cellsOf 22 = 2 := by kernel_rfl
theorem wf40 (n : Int) (h0 : 0 ≤ n) (h1 : n < 40) : (Lit.int .i64 n).wf = true := by
  simp [Lit.wf, IntKind.min, IntKind.max, IntKind.signed, IntKind.bits]
  omega
theorem mask3c (n : Int) : bits .and .i64 n 3 = n % 4 := by
  have h : (BitVec.ofInt 64 3).toNat = 2 ^ 2 - 1 := by decide
  have key : (BitVec.ofInt 64 n &&& BitVec.ofInt 64 3).toNat = (n % ((2 ^ 64 : Nat) : Int)).toNat % 2 ^ 2 := by
    rw [BitVec.toNat_and, BitVec.toNat_ofInt, h, Nat.and_two_pow_sub_one_eq_mod]
  show IntKind.i64.wrap ((BitVec.ofInt 64 n &&& BitVec.ofInt 64 3).toNat : Nat) = n % 4
  rw [key, IntKind.wrap_i64]
  omega
set_option maxRecDepth 100000 in
set_option maxHeartbeats 20000000 in
theorem walkN (w : World) (a0 b0 : Int) (ha : -9223372036854775808 ≤ a0 ∧ a0 ≤ 9223372036854775807) (hb : -9223372036854775808 ≤ b0 ∧ b0 ≤ 9223372036854775807) (v1 : Value) (l1 : List A5) (i1 : Acts5 w v1 l1) (q : A5) (hq : A5Ok w q) :
    Calls Tryz.prog 5 #[.agg #[.int .i64 a0, .int .i64 b0], v1, a5V q] w fun e w' => e = .returned (.bool true) ∧ Kp w w' := by
  obtain ⟨op, lm, ln, od, kv, KL_⟩ := q
  have hln := bounds_i64 hq.w3
  simp only at hln
  unfold a5V a5cs
  simp only
  show Calls Tryz.prog 5 #[.agg #[.int .i64 a0, .int .i64 b0], v1, .agg #[.int .i64 op, .int .i64 lm, .int .i64 ln, .bool od, kv]] w _
  obtain ⟨a5_, c5_, ek, _⟩ := hq.k.h
  have ek2 : kv = .slice a5_ KL_.length c5_ := ek
  subst ek2
  have HKL : Hid (KL w (.slice a5_ KL_.length c5_) KL_) := hq.k
  obtain ⟨n5, hn5⟩ : ∃ n, n = KL_.length := ⟨_, rfl⟩
  rw [← hn5] at HKL ⊢
  clear hq hn5 ek
  obtain ⟨q1, c1, rfl, _⟩ := i1.h
  obtain ⟨n1, hn1⟩ : ∃ n1, n1 = l1.length := ⟨_, rfl⟩
  have z1 : n1 ≤ c1 ∧ c1 ≤ 9223372036854775807 := by obtain ⟨a, cap, e, h1, h2, _⟩ := i1.h; simp only [Value.slice.injEq] at e; omega
  obtain ⟨z1, z2⟩ := z1
  rw [← hn1] at i1 ⊢
  have N1 := hid hn1
  have I1 := hid i1
  clear i1 hn1
  have hmin := @imin Tryz.prog
  have hmax := @imax Tryz.prog
  obtain ⟨m1, e1⟩ : ∃ m : Nat, min (n1 : Int) 15 = (m : Int) := ⟨min n1 15, by omega⟩
  have hm1 : m1 ≤ n1 := by omega
  have hm3 : m1 ≤ 15 := by omega
  obtain ⟨W, hW⟩ : ∃ W, W = (w.alloc (.cells #[.int .i64 a0, .int .i64 b0] 22)).alloc (.cells #[.int .i64 op, .int .i64 lm, .int .i64 ln, .bool od, .slice a5_ n5 c5_] 30) := ⟨_, rfl⟩
  have k00 : Kp w (w.alloc (.cells #[.int .i64 a0, .int .i64 b0] 22)) := (Kp.refl w).alloc _
  have k01 : Kp (w.alloc (.cells #[.int .i64 a0, .int .i64 b0] 22)) W := by rw [hW]; exact (Kp.refl _).alloc _
  have k0 : Hid (Kp w W) := k00.trans k01
  have r1 : W.cell? ⟨w.heap.size, 0, none⟩ = some (.int .i64 a0) := k01.held (by rw [World.cell?_alloc_at _ _ _ _ rfl]; rfl)
  have r2 : W.cell? ⟨w.heap.size, 1, none⟩ = some (.int .i64 b0) := k01.held (by rw [World.cell?_alloc_at _ _ _ _ rfl]; rfl)
  obtain ⟨LX, hLX⟩ : ∃ X, X = (w.alloc (.cells #[.int .i64 a0, .int .i64 b0] 22)).heap.size := ⟨_, rfl⟩
  have hLX2 : LX = w.heap.size + 1 := by rw [hLX]; simp
  have HLc : Hid (W.cell? ⟨LX, 0, none⟩ = some (.int .i64 op) ∧ W.cell? ⟨LX, 1, none⟩ = some (.int .i64 lm) ∧ W.cell? ⟨LX, 2, none⟩ = some (.int .i64 ln) ∧ W.cell? ⟨LX, 3, none⟩ = some (.bool od) ∧ W.cell? ⟨LX, 4, none⟩ = some (.slice a5_ n5 c5_)) := by
    refine ⟨?_, ?_, ?_, ?_, ?_⟩ <;> (rw [hW, World.cell?_alloc_at _ _ _ _ hLX]; rfl)
  have HW := hid hW
  have HLX := hid hLX2
  have hBg := lbegin_p a0 b0 ha hb W
  clear hW ha hb k00 k01 hLX hLX2
  go_enter Tryz.func5, Tryz.ntmps5
  go_upto_region 1 with fail
  rw [← HW.out, ← HLX.out]
  clear HW
  go_wp2_with fail
  refine hBg.mono ?_; rintro e wa ⟨v, x, b, r, y, T, R, sv, mv, su, mu, rfl, px, k1⟩
  have P1 := hid px
  have K1 := hid k1
  clear hBg px k1 r1 r2
  go_wp2_with fail
  refine (wakes17 _).mono ?_; rintro e wb ⟨rfl, k2⟩
  have PB : Hid (Pd W wb v x b r y T R (bgK a0 b0) (bgK a0 b0) sv mv su mu) := P1.out.kp k2
  have KB : Hid (Kp W wb) := K1.out.trans k2
  have EB : Hid (Bz (bgK a0 b0) 0) := bz_begin a0 b0 P1.out.kx.bay.gd
  clear k2 P1 K1
  go_wp2_with fail
  go_loopw [42] (fun i wr => ∃ (k : Nat) (K : KS) (T R : List Nat) (sv mv su mu : Value), k ≤ m1 ∧ i = .int .i64 k ∧ Hid (Pd W wr v x b r y T R K K sv mv su mu) ∧ Hid (Bz K k) ∧ Hid (Kp W wr)) (fun i _ => m1 - (intOf i).toNat)
  case atStart => exact ⟨0, _, T, R, sv, mv, su, mu, by omega, by go_num, PB, EB, KB⟩
  case round =>
    clear PB EB KB
    obtain ⟨k, K, T, R, sv, mv, su, mu, hk, rfl, PR, EK, KR⟩ := hrel
    by_cases hlt : k < m1
    · have hks : k < l1.length := by rw [← N1.out]; omega
      obtain ⟨qa, qc, eq, z1_, z2_, hq⟩ := (I1.out.kp (k0.out.trans KR.out)).take m1 (by rw [← N1.out]; exact hm1)
      obtain ⟨g, off, hqq, hrg⟩ := hq (by omega)
      simp only [Value.slice.injEq] at eq
      obtain rfl : q1 = some ⟨g, off, none⟩ := eq.1.trans hqq
      obtain ⟨f0, f1, f2, f3, f4⟩ := a5_cells (hrg k hlt)
      have fok := I1.out.ok k hks
      obtain ⟨a_, ha_⟩ : ∃ a_, a_ = l1.getD k noA5 := ⟨_, rfl⟩
      rw [← ha_] at f0 f1 f2 f3 f4 fok
      obtain ⟨op_, m_, t_, o_, kv_, KK_⟩ := a_
      simp only at f0 f1 f2 f3 f4
      have hkl : KL w kv_ KK_ := fok.k
      obtain ⟨va, vc, hva, z3_⟩ := hkl.h
      subst hva
      obtain ⟨vn, hvn⟩ : ∃ vn, vn = KK_.length := ⟨_, rfl⟩
      rw [← hvn] at f4
      clear ha_ eq hqq hrg fok z1_ z2_ hq z3_ hvn hkl
      obtain ⟨Wb, hWb⟩ : ∃ Wb, Wb = wr.alloc (.cells #[.int .i64 op_, .int .i64 m_, .int .i64 t_, .bool o_, .slice va vn vc] 30) := ⟨_, rfl⟩
      have kb : Kp wr Wb := by rw [hWb]; exact (Kp.refl wr).alloc _
      obtain ⟨b0_, b1_, b2_, b3_, b4_⟩ : Wb.cell? ⟨wr.heap.size, 0, none⟩ = some (.int .i64 op_) ∧ Wb.cell? ⟨wr.heap.size, 1, none⟩ = some (.int .i64 m_) ∧ Wb.cell? ⟨wr.heap.size, 2, none⟩ = some (.int .i64 t_) ∧ Wb.cell? ⟨wr.heap.size, 3, none⟩ = some (.bool o_) ∧ Wb.cell? ⟨wr.heap.size, 4, none⟩ = some (.slice va vn vc) := by
        refine ⟨?_, ?_, ?_, ?_, ?_⟩ <;> (rw [hWb, World.cell?_alloc_at _ _ _ _ rfl]; rfl)
      have HWb := hid hWb
      have PBb : Hid (Pd W Wb v x b r y T R K K sv mv su mu) := PR.out.kp kb
      have KBb : Hid (Kp W Wb) := KR.out.trans kb
      have hms := mask7b op_
      obtain ⟨d8, hd8⟩ : ∃ d, d = op_ % 8 := ⟨_, rfl⟩
      rw [← hd8] at hms
      have HD8 := hid hd8
      have hAc := fun (hd : op_ % 8 < 3 ∨ op_ % 8 = 7) => act_any PBb.out KBb.out (EK.out.p.ok (by omega)) op_ m_ t_ o_ va vn vc hd
      have hgo : (8 : Int) > d8 ∧ 0 ≤ d8 := by omega
      obtain ⟨hgo1, hgo2⟩ := hgo
      clear hWb kb PR hd8
      go_upto_region 7 with fail
      rw [← HWb.out]
      clear HWb f0 f1 f2 f3 f4
      by_cases hd3 : d8 < 3
      · have hA := hAc (.inl (by rw [← HD8.out]; exact hd3))
        clear hAc
        go_wp2_with fail
        refine hA.mono ?_; rintro e wz ⟨rfl, ⟨T1, R1, s1, t1, s2, t2, pz⟩, kz⟩
        have PZ := hid pz
        have KZ := hid kz
        have BZ : Hid (Bz (acK K op_ m_ t_) (k + 1)) := bz_act EK.out (by omega) op_ m_ t_ pz.kx.bay.gd
        clear hA pz kz b0_ b1_ b2_ b3_ b4_
        go_wp2
        go_roundw
        case rel => exact ⟨k + 1, _, T1, R1, s1, t1, s2, t2, by omega, by go_num, PZ, BZ, KZ⟩
        case measure => simp [intOf]; omega
      · by_cases hd7 : d8 = 7
        · have hA := hAc (.inr (by rw [← HD8.out]; exact hd7))
          clear hAc
          subst hd7
          go_wp2_with fail
          refine hA.mono ?_; rintro e wz ⟨rfl, ⟨T1, R1, s1, t1, s2, t2, pz⟩, kz⟩
          have PZ := hid pz
          have KZ := hid kz
          have BZ : Hid (Bz (acK K op_ m_ t_) (k + 1)) := bz_act EK.out (by omega) op_ m_ t_ pz.kx.bay.gd
          clear hA pz kz b0_ b1_ b2_ b3_ b4_
          go_wp2
          go_roundw
          case rel => exact ⟨k + 1, _, T1, R1, s1, t1, s2, t2, by omega, by go_num, PZ, BZ, KZ⟩
          case measure => simp [intOf]; omega
        · have b7 : (d8 == 7) = false := by simpa using hd7
          have BZ : Hid (Bz K (k + 1)) := EK.out.more
          clear hAc
          go_wp2
          go_roundw
          case rel => exact ⟨k + 1, _, T, R, sv, mv, su, mu, by omega, by go_num, PBb, BZ, KBb⟩
          case measure => simp [intOf]; omega
    · clear I1 N1
      have hk1 : k ≤ 100 := by omega
      have hk15 := hid hk1
      have PA : Hid (PY W wr v x b T K sv mv) := PR.out.px.py
      have HOk : Hid (Kok K) := EK.out.p.ok hk1
      obtain ⟨ls1, ls2, ls3, ls4, ls5, ls6⟩ := EK.out.p.lens
      have c0 := PA.out.c0
      have hLv := bw_live PA.out.kx.bay
      have hTl0 := hid PA.out.tl
      clear PR hk1 hk
      go_wp2_with fail
      refine hLv.mono ?_; rintro e wc ⟨lv, rfl, hlv, hBc, sc⟩
      have PC : Hid (PY W wc v x b T K sv mv) := PA.out.bay hBc sc
      have KC : Hid (Kp W wc) := Sp.kp KR.out sc (OL.bw.new PA.out.kx.bay)
      obtain ⟨la, lg_, lc, rfl, hl1, hl2, _, _⟩ := hlv
      obtain ⟨M, hM⟩ : ∃ M, M = (lvL 0 K.b.ms).length := ⟨_, rfl⟩
      have HM := hid hM
      rw [← hM] at hl1 ⊢
      clear hLv hBc sc hM c0 PA KR
      by_cases hM2 : M < 2
      · go_wp2
        go_ret
        exact ⟨rfl, k0.out.trans KC.out⟩
      · have hM2i : ¬ (M : Int) < 2 := by omega
        have HT2 : Hid (Two K.b) := two_of (by rw [← HM.out]; omega)
        have hLa := label_any PC.out.kx (by omega) (by omega)
        have vc1 := PC.out.c1
        unfold lV at hLa
        go_wp2_with fail
        refine hLa.mono ?_; rintro e wd ⟨y1, y2, rfl, tw, kd⟩
        obtain ⟨g1, d1, g2, d2, rfl, rfl, p1, p2, p3, p4, _, _, _, _, _⟩ := tw.shape (by omega) (by omega)
        obtain ⟨We, hWe⟩ : ∃ We, We = wd.alloc (.cells #[.int .i64 K.l.n, .int .i64 K.l.s, .int .i64 K.l.ep, .slice (some ⟨g1, 0, none⟩) K.l.sts.length d1, .slice (some ⟨g2, 0, none⟩) K.l.mks.length d2] 63) := ⟨_, rfl⟩
        have ob := Ob.new tw kd PC.out.tl 63
        rw [← hWe] at ob
        have ke : Kp wd We := by rw [hWe]; exact (Kp.refl wd).alloc _
        have HWe := hid hWe
        have PE : Hid (PY W We v x b T K sv mv) := (PC.out.kp kd).kp ke
        have KE : Hid (Kp W We) := (KC.out.trans kd).trans ke
        have HLS : Hid ((K.l.sts.length : Int) = K.l.n ∧ (K.l.mks.length : Int) = K.l.n ∧ (K.b.ms.length : Int) = K.l.n ∧ K.l.sts.length ≤ 32 ∧ K.l.mks.length ≤ 32 ∧ 4 ≤ K.l.n) := ⟨ls3, ls4, ls6, ls1, ls2, ls5⟩
        clear hLa tw kd ke hWe PC KC vc1 ls1 ls2 ls3 ls4 ls5 ls6
        go_upto_region 14 with fail
        rw [← HWe.out]
        clear HWe
        obtain ⟨X1, hX1⟩ : ∃ X, X = wd.heap.size := ⟨_, rfl⟩
        rw [← hX1] at ob ⊢
        obtain ⟨N, hN⟩ : ∃ N, N = K.l.sts.length := ⟨_, rfl⟩
        obtain ⟨NM, hNM⟩ : ∃ N, N = K.l.mks.length := ⟨_, rfl⟩
        have HN := hid hN
        have HNM := hid hNM
        rw [← hN] at p1 ob ⊢
        rw [← hNM] at p3 ob ⊢
        have OE := hid ob
        have hN4 : 4 ≤ N ∧ N ≤ 32 := by have := HLS.out; omega
        have hNN : Hid (NM = N ∧ K.b.ms.length = N) := by have := HLS.out; exact ⟨by omega, by omega⟩
        have hLo : Hid (∀ t, t ∈ x :: T → t < We.heap.size) := PE.out.tl
        clear hX1 hN hNM ob
        obtain ⟨nn, hnn⟩ : ∃ r : Int, r = (max 0 ln) % 40 := ⟨_, rfl⟩
        have tm0 : (max 0 ln).tmod 40 = nn := by rw [hnn]; exact Int.tmod_eq_emod_of_nonneg (by omega)
        have hn40 : 0 ≤ nn ∧ nn < 40 := by omega
        obtain ⟨hn40, hn41⟩ := hn40
        obtain ⟨hln1, hln2⟩ := hln
        have hCt : ∀ U, Kp We U → Calls Tryz.prog 29 #[.pointer (some ⟨b, 0, none⟩), .int .i64 nn] U fun e U' => e = .returned (.tuple #[]) ∧ Nz Bw W We U' b T (ctB K.b nn) := fun U k => (bw_cut (OL.bw.sp PE.out.kx.bay (k.sp []) (fun _ _ h => by cases h)) nn (wf40 nn hn40 hn41)).mono fun e U' ⟨he, hn⟩ => ⟨he, nzOff k hn⟩
        have hSS : ∀ U, Kp We U → U.cell? ⟨v, 0, none⟩ = some (.pointer (some ⟨b, 0, none⟩)) ∧ U.cell? ⟨LX, 2, none⟩ = some (.int .i64 ln) := fun U k => ⟨k.held PE.out.c0, k.held (KE.out.held HLc.out.2.2.1)⟩
        have hvT : Hid (v ∉ T ∧ LX ∉ T) := ⟨fun h => PE.out.nv (List.mem_cons_of_mem _ h), fun h => by
          have h1 := OL.bw.new PE.out.kx.bay _ h
          have h2 : LX < W.heap.size := World.block_lt_of_cell? _ _ HLc.out.1
          omega⟩
        have hSZ : ∀ U, Nz Bw W We U b T (ctB K.b nn) → U.cell? ⟨v, 0, none⟩ = some (.pointer (some ⟨b, 0, none⟩)) ∧ U.cell? ⟨LX, 2, none⟩ = some (.int .i64 ln) := fun U ⟨_, _, k, _⟩ => ⟨k.held PE.out.c0 hvT.out.1, k.held (KE.out.held HLc.out.2.2.1) hvT.out.2⟩
        have hr0 : Kp We We.drew := (Kp.refl _).drew
        clear hnn
        go_region_held3 (fun U => U.cell? ⟨v, 0, none⟩ = some (.pointer (some ⟨b, 0, none⟩)) ∧ U.cell? ⟨LX, 2, none⟩ = some (.int .i64 ln)) (first | exact hSS _ (by assumption) | exact hSZ _ (by assumption)) (first | (go_at_call 29; refine (hCt _ (by assumption)).mono ?_; rintro e Z ⟨rfl, zt⟩))
        have KZ : Hid (Kp W Z) := zt.below OL.bw PE.out.kx.bay KE.out
        obtain ⟨T1, o1, s1, n1_⟩ := zt
        have PZ : Hid (PY W Z v x b T1 (ctK K nn) sv mv) := PE.out.bayN o1 s1 n1_
        have OZ : Hid (Ob Z x T1 X1 K.l (.slice (some ⟨g1, 0, none⟩) N d1) (.slice (some ⟨g2, 0, none⟩) NM d2)) := OE.out.sp (s1.mono (fun t ht => List.mem_cons_of_mem _ ht)) n1_
        clear hCt hSS hSZ hr0 o1 s1 n1_ OE PE KE tm0 hvT hLo
        have CZ : Hid (Z.cell? ⟨LX, 0, none⟩ = some (.int .i64 op) ∧ Z.cell? ⟨LX, 1, none⟩ = some (.int .i64 lm) ∧ Z.cell? ⟨LX, 2, none⟩ = some (.int .i64 ln)) := ⟨KZ.out.held HLc.out.1, KZ.out.held HLc.out.2.1, KZ.out.held HLc.out.2.2.1⟩
        have hLXl : Hid (LX < W.heap.size) := World.block_lt_of_cell? _ _ HLc.out.1
        have hxn : Hid (LX ∉ x :: T1) := fun hm => by
          have h2 := hLXl.out
          rcases List.mem_cons.1 hm with e | e
          · have := PZ.out.kx.lx; omega
          · have := OL.bw.new PZ.out.kx.bay _ e; omega
        have zop := CZ.out.1
        have hms := mask3c op
        have hop : Hid (op % 4 = 0 ∨ op % 4 = 1 ∨ op % 4 = 2 ∨ op % 4 = 3) := by show _ ∨ _; omega
        have HC1 : Hid (Kok (ctK K nn)) := ct_ok HOk.out nn
        have hms32 : Hid (K.b.ms.length ≤ 32) := by have := HLS.out; show _ ≤ _; omega
        go_upto_block 2 with fail
        go_cut [13, 14, 15, 16, 82] (fun p _ _ _ _ V => ∃ (E : Int) (Kt : KS) (Tt : List Nat) (st mt : Value), p = .int .i64 E ∧ Hid (PY W V v x b Tt Kt st mt) ∧ Hid (Lst K Kt E op lm) ∧ Hid (Kp W V) ∧ Hid (Ob V x Tt X1 K.l (.slice (some ⟨g1, 0, none⟩) N d1) (.slice (some ⟨g2, 0, none⟩) NM d2)))
        case first =>
          have zop := CZ.out.1
          rcases hop.out with e4 | e4 | e4 | e4
          · rw [e4] at hms
            have hFa : ∀ V, Kp Z V → Calls Tryz.prog 30 #[.pointer (some ⟨x, 0, none⟩), .int .i64 lm, .int .i64 ln] V fun e V' => e = .returned (.int .i64 (baE (ctK K nn) lm ln)) ∧ Kz W Z V' x b T1 (baK (ctK K nn) lm ln) := fun V q => (advance_any (PZ.out.kx.kp q) (KZ.out.trans q) HC1.out lm ln).mono fun e V' ⟨he, hz⟩ => ⟨he, hz.from q⟩
            have hSS : ∀ V, Kp Z V → V.cell? ⟨v, 1, none⟩ = some (.pointer (some ⟨x, 0, none⟩)) ∧ V.cell? ⟨LX, 1, none⟩ = some (.int .i64 lm) ∧ V.cell? ⟨LX, 2, none⟩ = some (.int .i64 ln) := fun V q => ⟨q.held PZ.out.c1, q.held CZ.out.2.1, q.held CZ.out.2.2⟩
            have hSY : ∀ V, Kz W Z V x b T1 (baK (ctK K nn) lm ln) → V.cell? ⟨v, 1, none⟩ = some (.pointer (some ⟨x, 0, none⟩)) ∧ V.cell? ⟨LX, 1, none⟩ = some (.int .i64 lm) ∧ V.cell? ⟨LX, 2, none⟩ = some (.int .i64 ln) := fun V ⟨_, _, _, _, q, _⟩ => ⟨q.held PZ.out.c1 PZ.out.nv, q.held CZ.out.2.1 hxn.out, q.held CZ.out.2.2 hxn.out⟩
            have LL : Hid (Lst K (baK (ctK K nn) lm ln) (baE (ctK K nn) lm ln) op lm) := lst_adv EK.out hk15.out HT2.out hms32.out nn lm ln op
            obtain ⟨E, hE⟩ : ∃ E, E = baE (ctK K nn) lm ln := ⟨_, rfl⟩
            obtain ⟨Kt, hKt⟩ : ∃ E, E = baK (ctK K nn) lm ln := ⟨_, rfl⟩
            rw [← hE, ← hKt] at hFa LL
            rw [← hKt] at hSY
            have hr0 : Kp Z Z.drew := (Kp.refl _).drew
            clear hE hKt
            go_wp2_with fail
            go_region_held3 (fun V => V.cell? ⟨v, 1, none⟩ = some (.pointer (some ⟨x, 0, none⟩)) ∧ V.cell? ⟨LX, 1, none⟩ = some (.int .i64 lm) ∧ V.cell? ⟨LX, 2, none⟩ = some (.int .i64 ln)) (first | exact hSS _ (by assumption) | exact hSY _ (by assumption)) (first | (go_at_call 30; refine (hFa _ (by assumption)).mono ?_; rintro e wt ⟨rfl, zt⟩))
            have KT : Hid (Kp W wt) := zt.below PZ.out.kx KZ.out
            obtain ⟨Tt, st, mt, pt, ot⟩ := PZ.out.kzo OZ.out zt
            have PT := hid pt
            have OT := hid ot
            clear hFa hSS hSY hr0 zt pt ot
            go_wp2
            go_meet
            exact ⟨E, Kt, Tt, st, mt, rfl, PT, LL, KT, OT⟩
          · have hNx := next_anyB PZ.out.kx KZ.out HC1.out
            have HE4 := hid e4
            rw [e4] at hms
            have zc1 := PZ.out.c1
            obtain ⟨nM_, hnM_⟩ : ∃ t, t = nxM (ctK K nn) (ctK K nn).b.ms.length := ⟨_, rfl⟩
            obtain ⟨nT_, hnT_⟩ : ∃ t, t = nxT (ctK K nn) (ctK K nn).b.ms.length := ⟨_, rfl⟩
            rw [← hnM_, ← hnT_] at hNx
            clear hnM_ hnT_
            go_wp2_with fail
            refine hNx.mono ?_; rintro e wn ⟨rfl, kn, sn⟩
            have PN : Hid (PY W wn v x b T1 (ctK K nn) sv mv) := PZ.out.bay kn.bay sn
            have KN : Hid (Kp W wn) := Sp.kp KZ.out sn (OL.bw.new PZ.out.kx.bay)
            have ON : Hid (Ob wn x T1 X1 K.l (.slice (some ⟨g1, 0, none⟩) N d1) (.slice (some ⟨g2, 0, none⟩) NM d2)) := OZ.out.sp (sn.mono (fun t ht => List.mem_cons_of_mem _ ht)) (Nw.refl _ _)
            have zc2 := PN.out.c1
            clear hNx kn sn zc1
            go_upto_region 22 with fail
            go_wp2_with fail
            refine (advance_any PN.out.kx KN.out HC1.out nM_ _).mono ?_; rintro e wt ⟨rfl, zt⟩
            have KT : Hid (Kp W wt) := zt.below PN.out.kx KN.out
            obtain ⟨Tt, st, mt, pt, ot⟩ := PN.out.kzo ON.out zt
            have PT := hid pt
            have OT := hid ot
            clear zt pt ot zc2
            go_wp2
            go_meet
            exact ⟨_, _, Tt, st, mt, rfl, PT, lst_next EK.out hk15.out HT2.out hms32.out nn nM_ _ op lm HE4.out, KT, OT⟩
          · rw [e4] at hms
            have hFa : ∀ V, Kp Z V → Calls Tryz.prog 32 #[.pointer (some ⟨x, 0, none⟩), .int .i64 lm] V fun e V' => e = .returned (.int .i64 (brE (ctK K nn) lm)) ∧ Kz W Z V' x b T1 (brK (ctK K nn) lm) := fun V q => (breplace_any (PZ.out.kx.kp q) (KZ.out.trans q) HC1.out lm).mono fun e V' ⟨he, hz⟩ => ⟨he, hz.from q⟩
            have hSS : ∀ V, Kp Z V → V.cell? ⟨v, 1, none⟩ = some (.pointer (some ⟨x, 0, none⟩)) ∧ V.cell? ⟨LX, 1, none⟩ = some (.int .i64 lm) ∧ V.cell? ⟨LX, 2, none⟩ = some (.int .i64 ln) := fun V q => ⟨q.held PZ.out.c1, q.held CZ.out.2.1, q.held CZ.out.2.2⟩
            have hSY : ∀ V, Kz W Z V x b T1 (brK (ctK K nn) lm) → V.cell? ⟨v, 1, none⟩ = some (.pointer (some ⟨x, 0, none⟩)) ∧ V.cell? ⟨LX, 1, none⟩ = some (.int .i64 lm) ∧ V.cell? ⟨LX, 2, none⟩ = some (.int .i64 ln) := fun V ⟨_, _, _, _, q, _⟩ => ⟨q.held PZ.out.c1 PZ.out.nv, q.held CZ.out.2.1 hxn.out, q.held CZ.out.2.2 hxn.out⟩
            have LL : Hid (Lst K (brK (ctK K nn) lm) (brE (ctK K nn) lm) op lm) := lst_rep EK.out hk15.out HT2.out hms32.out nn lm op
            obtain ⟨E, hE⟩ : ∃ E, E = brE (ctK K nn) lm := ⟨_, rfl⟩
            obtain ⟨Kt, hKt⟩ : ∃ E, E = brK (ctK K nn) lm := ⟨_, rfl⟩
            rw [← hE, ← hKt] at hFa LL
            rw [← hKt] at hSY
            have hr0 : Kp Z Z.drew := (Kp.refl _).drew
            clear hE hKt
            go_wp2_with fail
            go_region_held3 (fun V => V.cell? ⟨v, 1, none⟩ = some (.pointer (some ⟨x, 0, none⟩)) ∧ V.cell? ⟨LX, 1, none⟩ = some (.int .i64 lm) ∧ V.cell? ⟨LX, 2, none⟩ = some (.int .i64 ln)) (first | exact hSS _ (by assumption) | exact hSY _ (by assumption)) (first | (go_at_call 32; refine (hFa _ (by assumption)).mono ?_; rintro e wt ⟨rfl, zt⟩))
            have KT : Hid (Kp W wt) := zt.below PZ.out.kx KZ.out
            obtain ⟨Tt, st, mt, pt, ot⟩ := PZ.out.kzo OZ.out zt
            have PT := hid pt
            have OT := hid ot
            clear hFa hSS hSY hr0 zt pt ot
            go_wp2
            go_meet
            exact ⟨E, Kt, Tt, st, mt, rfl, PT, LL, KT, OT⟩
          · rw [e4] at hms
            have hFa : ∀ V, Kp Z V → Calls Tryz.prog 33 #[.pointer (some ⟨x, 0, none⟩), .int .i64 lm] V fun e V' => e = .returned (.int .i64 (bfE (ctK K nn) lm)) ∧ Kz W Z V' x b T1 (bfK (ctK K nn) lm) := fun V q => (bfail_any (PZ.out.kx.kp q) (KZ.out.trans q) HC1.out lm).mono fun e V' ⟨he, hz⟩ => ⟨he, hz.from q⟩
            have hSS : ∀ V, Kp Z V → V.cell? ⟨v, 1, none⟩ = some (.pointer (some ⟨x, 0, none⟩)) ∧ V.cell? ⟨LX, 1, none⟩ = some (.int .i64 lm) ∧ V.cell? ⟨LX, 2, none⟩ = some (.int .i64 ln) := fun V q => ⟨q.held PZ.out.c1, q.held CZ.out.2.1, q.held CZ.out.2.2⟩
            have hSY : ∀ V, Kz W Z V x b T1 (bfK (ctK K nn) lm) → V.cell? ⟨v, 1, none⟩ = some (.pointer (some ⟨x, 0, none⟩)) ∧ V.cell? ⟨LX, 1, none⟩ = some (.int .i64 lm) ∧ V.cell? ⟨LX, 2, none⟩ = some (.int .i64 ln) := fun V ⟨_, _, _, _, q, _⟩ => ⟨q.held PZ.out.c1 PZ.out.nv, q.held CZ.out.2.1 hxn.out, q.held CZ.out.2.2 hxn.out⟩
            have LL : Hid (Lst K (bfK (ctK K nn) lm) (bfE (ctK K nn) lm) op lm) := lst_fail EK.out hk15.out HT2.out hms32.out nn lm op
            obtain ⟨E, hE⟩ : ∃ E, E = bfE (ctK K nn) lm := ⟨_, rfl⟩
            obtain ⟨Kt, hKt⟩ : ∃ E, E = bfK (ctK K nn) lm := ⟨_, rfl⟩
            rw [← hE, ← hKt] at hFa LL
            rw [← hKt] at hSY
            have hr0 : Kp Z Z.drew := (Kp.refl _).drew
            clear hE hKt
            go_wp2_with fail
            go_region_held3 (fun V => V.cell? ⟨v, 1, none⟩ = some (.pointer (some ⟨x, 0, none⟩)) ∧ V.cell? ⟨LX, 1, none⟩ = some (.int .i64 lm) ∧ V.cell? ⟨LX, 2, none⟩ = some (.int .i64 ln)) (first | exact hSS _ (by assumption) | exact hSY _ (by assumption)) (first | (go_at_call 33; refine (hFa _ (by assumption)).mono ?_; rintro e wt ⟨rfl, zt⟩))
            have KT : Hid (Kp W wt) := zt.below PZ.out.kx KZ.out
            obtain ⟨Tt, st, mt, pt, ot⟩ := PZ.out.kzo OZ.out zt
            have PT := hid pt
            have OT := hid ot
            clear hFa hSS hSY hr0 zt pt ot
            go_wp2
            go_meet
            exact ⟨E, Kt, Tt, st, mt, rfl, PT, LL, KT, OT⟩
        case rest =>
          obtain ⟨E, Kt, Tt, st, mt, rfl, PT, LL, KT, OT⟩ := hcut
          rename World => Zt
          clear PZ OZ CZ KZ zop hms
          have hzl : Hid (Kt.l.sts.length = N ∧ Kt.l.mks.length = N) := ⟨LL.out.z.s.trans HN.out.symm, LL.out.z.m.trans (HNM.out.symm.trans hNN.out.1)⟩
          have hLb := label_any PT.out.kx (by have := hzl.out.1; omega) (by have := hzl.out.2; omega)
          have vt1 := PT.out.c1
          unfold lV at hLb
          go_wp2_with fail
          refine hLb.mono ?_; rintro e wd2 ⟨y3, y4, rfl, tw2, kd2⟩
          obtain ⟨g3, d3, g4, d4, rfl, rfl, p5, p6, p7, p8, _, _, _, _, _⟩ := tw2.shape (by have := hzl.out.1; omega) (by have := hzl.out.2; omega)
          obtain ⟨Wf, hWf⟩ : ∃ We, We = wd2.alloc (.cells #[.int .i64 Kt.l.n, .int .i64 Kt.l.s, .int .i64 Kt.l.ep, .slice (some ⟨g3, 0, none⟩) Kt.l.sts.length d3, .slice (some ⟨g4, 0, none⟩) Kt.l.mks.length d4] 63) := ⟨_, rfl⟩
          have ob2 := Ob.new tw2 kd2 PT.out.tl 63
          rw [← hWf] at ob2
          have kf : Kp wd2 Wf := by rw [hWf]; exact (Kp.refl wd2).alloc _
          have HWf := hid hWf
          have PF : Hid (PY W Wf v x b Tt Kt st mt) := (PT.out.kp kd2).kp kf
          have KF : Hid (Kp W Wf) := (KT.out.trans kd2).trans kf
          have OF1 : Hid (Ob Wf x Tt X1 K.l (.slice (some ⟨g1, 0, none⟩) N d1) (.slice (some ⟨g2, 0, none⟩) NM d2)) := (OT.out.kp kd2).kp kf
          clear hLb tw2 kd2 kf hWf PT KT OT vt1
          go_upto_region 26 with fail
          rw [← HWf.out]
          clear HWf
          obtain ⟨X2, hX2⟩ : ∃ X, X = wd2.heap.size := ⟨_, rfl⟩
          rw [← hX2] at ob2 ⊢
          rw [hzl.out.1] at p5 ob2 ⊢
          rw [hzl.out.2] at p7 ob2 ⊢
          have OF2 := hid ob2
          clear hX2 ob2
          have hke : Hid (∀ i, i < KL_.length → KeIn W (KL_.getD i noK).1 (KL_.getD i noK).2) := (HKL.out.kp k0.out).k
          have hL1 : ∀ U, Kp Wf U → Calls Tryz.prog 35 #[.agg #[.int .i64 op, .int .i64 lm, .int .i64 ln, .bool od, .slice a5_ n5 c5_]] U fun e U' => ∃ u, e = .returned u ∧ Kp Wf U' ∧ Ks W U' Tt u (min KL_.length 32) (ksF KL_) := fun U q => by
            refine (lists_any ⟨op, lm, ln, od, .slice a5_ n5 c5_, KL_⟩ U (HKL.out.kp (k0.out.trans (KF.out.trans q)))).mono ?_
            rintro e U' ⟨u, he, ho, hk'⟩
            exact ⟨u, he, q.trans hk', Ks.of hke.out ho (fun t ht => by have := PF.out.tl t (List.mem_cons_of_mem _ ht); have := q.size; omega)⟩
          have hgK : Hid (Kt.b.g < 100000) := by
            have h1 := EK.out.g
            have h2 := LL.out.z.g
            have h3 := hk15.out
            show _ < _
            omega
          have hC1 : ∀ U u, Kp Wf U → Ks W U Tt u (min KL_.length 32) (ksF KL_) → Calls Tryz.prog 34 #[.pointer (some ⟨b, 0, none⟩), u] U fun e U' => e = .returned (.tuple #[]) ∧ Nz Bw W Wf U' b Tt (crB Kt.b (ksF KL_)) := fun U u q hks => (bw_crash (OL.bw.sp PF.out.kx.bay (q.sp []) (fun _ _ h => by cases h)) (KF.out.trans q) u _ _ hks (by have := hgK.out; omega)).mono fun e U' ⟨he, hn⟩ => ⟨he, nzOff q hn⟩
          have hSS : ∀ U, Kp Wf U → U.cell? ⟨v, 0, none⟩ = some (.pointer (some ⟨b, 0, none⟩)) ∧ U.cell? ⟨LX, 0, none⟩ = some (.int .i64 op) ∧ U.cell? ⟨LX, 1, none⟩ = some (.int .i64 lm) ∧ U.cell? ⟨LX, 2, none⟩ = some (.int .i64 ln) ∧ U.cell? ⟨LX, 3, none⟩ = some (.bool od) ∧ U.cell? ⟨LX, 4, none⟩ = some (.slice a5_ n5 c5_) := fun U q => ⟨q.held PF.out.c0, q.held (KF.out.held HLc.out.1), q.held (KF.out.held HLc.out.2.1), q.held (KF.out.held HLc.out.2.2.1), q.held (KF.out.held HLc.out.2.2.2.1), q.held (KF.out.held HLc.out.2.2.2.2)⟩
          have hvT : Hid (v ∉ Tt ∧ LX ∉ Tt) := ⟨fun h => PF.out.nv (List.mem_cons_of_mem _ h), fun h => by
            have h1 := OL.bw.new PF.out.kx.bay _ h
            have h2 := hLXl.out
            omega⟩
          have hSZ : ∀ U, Nz Bw W Wf U b Tt (crB Kt.b (ksF KL_)) → U.cell? ⟨v, 0, none⟩ = some (.pointer (some ⟨b, 0, none⟩)) ∧ U.cell? ⟨LX, 0, none⟩ = some (.int .i64 op) ∧ U.cell? ⟨LX, 1, none⟩ = some (.int .i64 lm) ∧ U.cell? ⟨LX, 2, none⟩ = some (.int .i64 ln) ∧ U.cell? ⟨LX, 3, none⟩ = some (.bool od) ∧ U.cell? ⟨LX, 4, none⟩ = some (.slice a5_ n5 c5_) := fun U ⟨_, _, q, _⟩ => ⟨q.held PF.out.c0 hvT.out.1, q.held (KF.out.held HLc.out.1) hvT.out.2, q.held (KF.out.held HLc.out.2.1) hvT.out.2, q.held (KF.out.held HLc.out.2.2.1) hvT.out.2, q.held (KF.out.held HLc.out.2.2.2.1) hvT.out.2, q.held (KF.out.held HLc.out.2.2.2.2) hvT.out.2⟩
          have hr0 : Kp Wf Wf.drew := (Kp.refl _).drew
          go_region_held3 (fun U => U.cell? ⟨v, 0, none⟩ = some (.pointer (some ⟨b, 0, none⟩)) ∧ U.cell? ⟨LX, 0, none⟩ = some (.int .i64 op) ∧ U.cell? ⟨LX, 1, none⟩ = some (.int .i64 lm) ∧ U.cell? ⟨LX, 2, none⟩ = some (.int .i64 ln) ∧ U.cell? ⟨LX, 3, none⟩ = some (.bool od) ∧ U.cell? ⟨LX, 4, none⟩ = some (.slice a5_ n5 c5_)) (first | exact hSS _ (by assumption) | exact hSZ _ (by assumption)) (first | (go_at_call 35; refine (hL1 _ (by assumption)).mono ?_; rintro e wl ⟨ul, rfl, kl, ksl⟩) | (go_at_call 34; refine (hC1 _ _ (by assumption) (by assumption)).mono ?_; rintro e wx ⟨rfl, zx⟩))
          have KX_ : Hid (Kp W wx) := zx.below OL.bw PF.out.kx.bay KF.out
          have FN := hid (LL.out.f (ksF KL_))
          have EL := hid LL.out.z
          obtain ⟨T3, o3, s3, n3⟩ := zx
          have o3' := o3
          have OX1 : Hid (Ob wx x T3 X1 K.l (.slice (some ⟨g1, 0, none⟩) N d1) (.slice (some ⟨g2, 0, none⟩) NM d2)) := OF1.out.sp (s3.mono (fun t ht => List.mem_cons_of_mem _ ht)) n3
          have OX2 : Hid (Ob wx x T3 X2 Kt.l (.slice (some ⟨g3, 0, none⟩) N d3) (.slice (some ⟨g4, 0, none⟩) N d4)) := OF2.out.sp (s3.mono (fun t ht => List.mem_cons_of_mem _ ht)) n3
          have cv0 : wx.cell? ⟨v, 0, none⟩ = some (.pointer (some ⟨b, 0, none⟩)) := s3.held PF.out.c0 hvT.out.1
          have hOp := open_any o3 KX_.out FN.out.ev (by have h1 := FN.out.lp; have h2 := EK.out.e; have h3 := hk15.out; omega) (by show Kt.b.g + 100 < 1000000; have := hgK.out; omega)
          rw [FN.out.e] at hOp
          obtain ⟨DD, hDD⟩ : ∃ D, D = opnK (crB Kt.b (ksF KL_)) := ⟨_, rfl⟩
          rw [← hDD] at hOp
          have HDD := hid hDD
          clear hL1 hC1 hSS hSZ hr0 o3 s3 n3 OF1 OF2 PF KF hvT kl ksl hDD
          go_wp2_with fail
          refine hOp.mono ?_; rintro e wo ⟨p, rfl, hx, _⟩
          obtain ⟨x2, rfl, hxw, T4, s4, m4, X4, t4, n4, hl4⟩ := hx rfl
          have KO : Hid (Kp W wo) := Sp.kp KX_.out t4 (OL.bw.new o3')
          have OO1 : Hid (Ob wo x T4 X1 K.l (.slice (some ⟨g1, 0, none⟩) N d1) (.slice (some ⟨g2, 0, none⟩) NM d2)) := OX1.out.sp (t4.mono (fun t ht => List.mem_cons_of_mem _ ht)) n4
          have OO2 : Hid (Ob wo x T4 X2 Kt.l (.slice (some ⟨g3, 0, none⟩) N d3) (.slice (some ⟨g4, 0, none⟩) N d4)) := OX2.out.sp (t4.mono (fun t ht => List.mem_cons_of_mem _ ht)) n4
          have hdl : Hid (DD.l.sts.length = N ∧ DD.l.mks.length = N) := by
            have h1 := FN.out.n
            rw [← HDD.out, hNN.out.2] at h1
            exact h1
          have hLi := label_any X4 (by have := hdl.out.1; omega) (by have := hdl.out.2; omega)
          have HX4 := hid X4
          unfold lV at hLi
          clear hOp X4 t4 n4 hl4 hx o3' OX1 OX2 KX_ cv0
          go_wp2_with fail
          refine hLi.mono ?_; rintro e wd3 ⟨y5, y6, rfl, tw3, kd3⟩
          obtain ⟨g5, d5, g6, d6, rfl, rfl, p9, p10, p11, p12, _, _, _, _, _⟩ := tw3.shape (by have := hdl.out.1; omega) (by have := hdl.out.2; omega)
          obtain ⟨Wi, hWi⟩ : ∃ We, We = wd3.alloc (.cells #[.int .i64 DD.l.n, .int .i64 DD.l.s, .int .i64 DD.l.ep, .slice (some ⟨g5, 0, none⟩) DD.l.sts.length d5, .slice (some ⟨g6, 0, none⟩) DD.l.mks.length d6] 63) := ⟨_, rfl⟩
          have li : Lc Wi wd3.heap.size DD.l.n DD.l.s DD.l.ep (.slice (some ⟨g5, 0, none⟩) DD.l.sts.length d5) (.slice (some ⟨g6, 0, none⟩) DD.l.mks.length d6) := by rw [hWi]; exact Lc.new wd3 _ _ _ _ _ _
          have ki : Kp wd3 Wi := by rw [hWi]; exact (Kp.refl wd3).alloc _
          have hi5 := tw3.n1.kept ki
          have hi6 := tw3.n2.kept ki
          have HWi := hid hWi
          have KI : Hid (Kp W Wi) := (KO.out.trans kd3).trans ki
          have OI1 : Hid (Ob Wi x T4 X1 K.l (.slice (some ⟨g1, 0, none⟩) N d1) (.slice (some ⟨g2, 0, none⟩) NM d2)) := (OO1.out.kp kd3).kp ki
          have OI2 : Hid (Ob Wi x T4 X2 Kt.l (.slice (some ⟨g3, 0, none⟩) N d3) (.slice (some ⟨g4, 0, none⟩) N d4)) := (OO2.out.kp kd3).kp ki
          clear hLi tw3 kd3 ki hWi OO1 OO2 KO
          go_upto_region 31 with fail
          rw [← HWi.out]
          clear HWi
          obtain ⟨X3, hX3⟩ : ∃ X, X = wd3.heap.size := ⟨_, rfl⟩
          rw [← hX3] at li ⊢
          rw [hdl.out.1] at p9 li hi5 ⊢
          rw [hdl.out.2] at p11 li hi6 ⊢
          rw [hNN.out.1] at OI1 p3
          have LI := hid li
          have HI5 := hid hi5
          have HI6 := hid hi6
          obtain ⟨i0, i1, i2, i3, i4⟩ := LI.out
          obtain ⟨j0, j1, j2, j3, j4⟩ := OI1.out.lc
          obtain ⟨u0, u1, u2, u3, u4⟩ := OI2.out.lc
          obtain ⟨l0, l1, l2, _, _⟩ : Wi.cell? ⟨LX, 0, none⟩ = some (.int .i64 op) ∧ Wi.cell? ⟨LX, 1, none⟩ = some (.int .i64 lm) ∧ Wi.cell? ⟨LX, 2, none⟩ = some (.int .i64 ln) ∧ Wi.cell? ⟨LX, 3, none⟩ = some (.bool od) ∧ Wi.cell? ⟨LX, 4, none⟩ = some (.slice a5_ n5 c5_) := ⟨KI.out.held HLc.out.1, KI.out.held HLc.out.2.1, KI.out.held HLc.out.2.2.1, KI.out.held HLc.out.2.2.2.1, KI.out.held HLc.out.2.2.2.2⟩
          have HCi : Hid (Wi.cell? ⟨X3, 2, none⟩ = some (.int .i64 DD.l.ep) ∧ Wi.cell? ⟨X3, 3, none⟩ = some (.slice (some ⟨g5, 0, none⟩) N d5) ∧ Wi.cell? ⟨X3, 4, none⟩ = some (.slice (some ⟨g6, 0, none⟩) N d6) ∧ Wi.cell? ⟨X1, 2, none⟩ = some (.int .i64 K.l.ep) ∧ Wi.cell? ⟨X1, 3, none⟩ = some (.slice (some ⟨g1, 0, none⟩) N d1) ∧ Wi.cell? ⟨X1, 4, none⟩ = some (.slice (some ⟨g2, 0, none⟩) N d2) ∧ Wi.cell? ⟨X2, 3, none⟩ = some (.slice (some ⟨g3, 0, none⟩) N d3) ∧ Wi.cell? ⟨X2, 4, none⟩ = some (.slice (some ⟨g4, 0, none⟩) N d4) ∧ Wi.cell? ⟨LX, 0, none⟩ = some (.int .i64 op) ∧ Wi.cell? ⟨LX, 1, none⟩ = some (.int .i64 lm)) := ⟨i2, i3, i4, j2, j3, j4, u3, u4, l0, l1⟩
          have hepp : Hid (K.l.ep < DD.l.ep) := by rw [HDD.out]; exact FN.out.ep
          have HSs : Hid (∀ j, j < N → Wi.cell? ⟨g5, j, none⟩ = some (.int .i64 (DD.l.sts.getD j 0)) ∧ Wi.cell? ⟨g6, j, none⟩ = some (.int .i64 (DD.l.mks.getD j 0)) ∧ Wi.cell? ⟨g1, j, none⟩ = some (.int .i64 (K.l.sts.getD j 0)) ∧ Wi.cell? ⟨g2, j, none⟩ = some (.int .i64 (K.l.mks.getD j 0)) ∧ Wi.cell? ⟨g3, j, none⟩ = some (.int .i64 (Kt.l.sts.getD j 0)) ∧ Wi.cell? ⟨g4, j, none⟩ = some (.int .i64 (Kt.l.mks.getD j 0))) := fun j hj => ⟨HI5.out.cell j (by rw [hdl.out.1]; exact hj), HI6.out.cell j (by rw [hdl.out.2]; exact hj), OI1.out.n1.cell j (by rw [← HN.out]; exact hj), OI1.out.n2.cell j (by rw [← HNM.out, hNN.out.1]; exact hj), OI2.out.n1.cell j (by rw [hzl.out.1]; exact hj), OI2.out.n2.cell j (by rw [hzl.out.2]; exact hj)⟩
          have HR1 : Hid (∀ j, j < N → DD.l.sts.getD j 0 ≠ K.l.sts.getD j 0 ∨ DD.l.mks.getD j 0 ≠ K.l.mks.getD j 0 → (j : Int) = lm ∨ op % 4 = 1) := fun j hj h => FN.out.r1 j (by rw [hNN.out.2]; exact hj) (by rw [← HDD.out]; exact h)
          have HR2 : Hid (E = 0 → ∀ j, j < N → DD.l.sts.getD j 0 = Kt.l.sts.getD j 0 ∧ DD.l.mks.getD j 0 = Kt.l.mks.getD j 0) := fun hE j hj => by
            have h1 := FN.out.r2 hE j (by rw [hNN.out.2]; exact hj)
            rw [← HDD.out] at h1
            exact h1
          have KI0 : Hid (Kp Wi Wi) := Kp.refl Wi
          obtain ⟨hNa, hNb⟩ := hN4
          clear li hi5 hi6 hX3 i0 i1 i2 i4 j0 j1 j2 j3 j4 u0 u1 u2 u3 u4 l0 l1 l2 OI1 OI2 LI HI5 HI6 FN LL HKL hke
          go_wp2_with fail
          go_loopw [21, 22, 156] (fun o d i wr => ∃ (j : Nat) (ob : Bool), j ≤ N ∧ i = .int .i64 j ∧ o = .bool ob ∧ d = .bool true ∧ Hid (Kp Wi wr)) (fun _ _ i _ => N - (intOf i).toNat)
          case atStart => exact ⟨0, true, by omega, by go_num, rfl, rfl, KI0⟩
          case round =>
            clear i3 KI0
            obtain ⟨j, ob, hj, rfl, rfl, rfl, HJ⟩ := hrel
            have hms := mask3c op
            have n0 := HJ.out.held HCi.out.1
            have n1 := HJ.out.held HCi.out.2.1
            have n2 := HJ.out.held HCi.out.2.2.1
            have n3 := HJ.out.held HCi.out.2.2.2.1
            have n4 := HJ.out.held HCi.out.2.2.2.2.1
            have n5 := HJ.out.held HCi.out.2.2.2.2.2.1
            have n6 := HJ.out.held HCi.out.2.2.2.2.2.2.1
            have n7 := HJ.out.held HCi.out.2.2.2.2.2.2.2.1
            have n8 := HJ.out.held HCi.out.2.2.2.2.2.2.2.2.1
            have n9 := HJ.out.held HCi.out.2.2.2.2.2.2.2.2.2
            by_cases hjN : j < N
            · obtain ⟨t1, t2, t3, t4, t5, t6⟩ := HSs.out j hjN
              have t1 := HJ.out.held t1
              have t2 := HJ.out.held t2
              have t3 := HJ.out.held t3
              have t4 := HJ.out.held t4
              have t5 := HJ.out.held t5
              have t6 := HJ.out.held t6
              have HRa := HR1.out j hjN
              have HRb := fun h => HR2.out h j hjN
              obtain ⟨xs, hxs⟩ : ∃ z, z = DD.l.sts.getD j 0 := ⟨_, rfl⟩
              obtain ⟨xm, hxm⟩ : ∃ z, z = DD.l.mks.getD j 0 := ⟨_, rfl⟩
              obtain ⟨ys, hys⟩ : ∃ z, z = K.l.sts.getD j 0 := ⟨_, rfl⟩
              obtain ⟨ym, hym⟩ : ∃ z, z = K.l.mks.getD j 0 := ⟨_, rfl⟩
              obtain ⟨zs, hzs⟩ : ∃ z, z = Kt.l.sts.getD j 0 := ⟨_, rfl⟩
              obtain ⟨zm, hzm⟩ : ∃ z, z = Kt.l.mks.getD j 0 := ⟨_, rfl⟩
              rw [← hxs] at t1 HRa HRb
              rw [← hxm] at t2 HRa HRb
              rw [← hys] at t3 HRa
              rw [← hym] at t4 HRa
              rw [← hzs] at t5 HRb
              rw [← hzm] at t6 HRb
              have HRA := hid HRa
              have HRB := hid HRb
              have hjN2 : (j : Int) < (N : Int) := by omega
              clear hxs hxm hys hym hzs hzm HRa HRb hj
              by_cases hch : (j : Int) = lm
              · have b1_ : ((j : Int) == lm) = true := by simpa using hch
                clear hch
                by_cases hdf : xs = ys
                · by_cases hdf2 : xm = ym
                  · have hdf := And.intro hdf hdf2
                    clear hdf2
                    by_cases hE0 : E = 0
                    · as_aux_lemma =>
                      obtain ⟨rfl, rfl⟩ := hdf
                      obtain ⟨hz1_, hz2_⟩ := HRB.out hE0
                      obtain rfl := hz1_
                      obtain rfl := hz2_
                      subst hE0
                      go_wp2_with fail
                      go_quiet (fail)
                      go_wp2_with fail
                      go_quiet (fail)
                      go_wp2
                      go_roundw
                      case rel => exact ⟨j + 1, ob, by omega, by go_num, rfl, rfl, HJ.out.drewN _⟩
                      case measure => simp [intOf]; omega
                    · as_aux_lemma =>
                      obtain ⟨rfl, rfl⟩ := hdf
                      have hE1 : (E == 0) = false := by simpa using hE0
                      clear hE0
                      go_wp2_with fail
                      go_quiet (fail)
                      go_wp2_with fail
                      go_quiet (fail)
                      go_wp2
                      go_roundw
                      case rel => exact ⟨j + 1, ob, by omega, by go_num, rfl, rfl, HJ.out.drewN _⟩
                      case measure => simp [intOf]; omega
                  · have hdf := And.intro hdf hdf2
                    clear hdf2
                    by_cases hE0 : E = 0
                    · as_aux_lemma =>
                      obtain ⟨rfl, hdf2⟩ := hdf
                      have g1_ : (xm != ym) = true := by simpa using hdf2
                      obtain ⟨hz1_, hz2_⟩ := HRB.out hE0
                      obtain rfl := hz1_
                      obtain rfl := hz2_
                      subst hE0
                      go_wp2_with fail
                      go_quiet (fail)
                      go_wp2_with fail
                      go_quiet (fail)
                      go_wp2
                      go_roundw
                      case rel => exact ⟨j + 1, false, by omega, by go_num, rfl, rfl, HJ.out.drewN _⟩
                      case measure => simp [intOf]; omega
                    · as_aux_lemma =>
                      obtain ⟨rfl, hdf2⟩ := hdf
                      have g1_ : (xm != ym) = true := by simpa using hdf2
                      have hE1 : (E == 0) = false := by simpa using hE0
                      clear hE0
                      go_wp2_with fail
                      go_quiet (fail)
                      go_wp2_with fail
                      go_quiet (fail)
                      go_wp2
                      go_roundw
                      case rel => exact ⟨j + 1, false, by omega, by go_num, rfl, rfl, HJ.out.drewN _⟩
                      case measure => simp [intOf]; omega
                · by_cases hE0 : E = 0
                  · as_aux_lemma =>
                    have g1_ : (xs != ys) = true := by simpa using hdf
                    obtain ⟨hz1_, hz2_⟩ := HRB.out hE0
                    obtain rfl := hz1_
                    obtain rfl := hz2_
                    subst hE0
                    go_wp2_with fail
                    go_quiet (fail)
                    go_wp2_with fail
                    go_quiet (fail)
                    go_wp2
                    go_roundw
                    case rel => exact ⟨j + 1, false, by omega, by go_num, rfl, rfl, HJ.out.drewN _⟩
                    case measure => simp [intOf]; omega
                  · as_aux_lemma =>
                    have g1_ : (xs != ys) = true := by simpa using hdf
                    have hE1 : (E == 0) = false := by simpa using hE0
                    clear hE0
                    go_wp2_with fail
                    go_quiet (fail)
                    go_wp2_with fail
                    go_quiet (fail)
                    go_wp2
                    go_roundw
                    case rel => exact ⟨j + 1, false, by omega, by go_num, rfl, rfl, HJ.out.drewN _⟩
                    case measure => simp [intOf]; omega
              · by_cases hop1 : op % 4 = 1
                · have b1_ : ((j : Int) == lm) = false := by simpa using hch
                  have b2_ : (op % 4 == 1) = true := by simpa using hop1
                  clear hch hop1
                  by_cases hdf : xs = ys
                  · by_cases hdf2 : xm = ym
                    · have hdf := And.intro hdf hdf2
                      clear hdf2
                      by_cases hE0 : E = 0
                      · as_aux_lemma =>
                        obtain ⟨rfl, rfl⟩ := hdf
                        obtain ⟨hz1_, hz2_⟩ := HRB.out hE0
                        obtain rfl := hz1_
                        obtain rfl := hz2_
                        subst hE0
                        go_wp2_with fail
                        go_quiet (fail)
                        go_wp2_with fail
                        go_quiet (fail)
                        go_wp2
                        go_roundw
                        case rel => exact ⟨j + 1, ob, by omega, by go_num, rfl, rfl, HJ.out.drewN _⟩
                        case measure => simp [intOf]; omega
                      · as_aux_lemma =>
                        obtain ⟨rfl, rfl⟩ := hdf
                        have hE1 : (E == 0) = false := by simpa using hE0
                        clear hE0
                        go_wp2_with fail
                        go_quiet (fail)
                        go_wp2_with fail
                        go_quiet (fail)
                        go_wp2
                        go_roundw
                        case rel => exact ⟨j + 1, ob, by omega, by go_num, rfl, rfl, HJ.out.drewN _⟩
                        case measure => simp [intOf]; omega
                    · have hdf := And.intro hdf hdf2
                      clear hdf2
                      by_cases hE0 : E = 0
                      · as_aux_lemma =>
                        obtain ⟨rfl, hdf2⟩ := hdf
                        have g1_ : (xm != ym) = true := by simpa using hdf2
                        obtain ⟨hz1_, hz2_⟩ := HRB.out hE0
                        obtain rfl := hz1_
                        obtain rfl := hz2_
                        subst hE0
                        go_wp2_with fail
                        go_quiet (fail)
                        go_wp2_with fail
                        go_quiet (fail)
                        go_wp2
                        go_roundw
                        case rel => exact ⟨j + 1, false, by omega, by go_num, rfl, rfl, HJ.out.drewN _⟩
                        case measure => simp [intOf]; omega
                      · as_aux_lemma =>
                        obtain ⟨rfl, hdf2⟩ := hdf
                        have g1_ : (xm != ym) = true := by simpa using hdf2
                        have hE1 : (E == 0) = false := by simpa using hE0
                        clear hE0
                        go_wp2_with fail
                        go_quiet (fail)
                        go_wp2_with fail
                        go_quiet (fail)
                        go_wp2
                        go_roundw
                        case rel => exact ⟨j + 1, false, by omega, by go_num, rfl, rfl, HJ.out.drewN _⟩
                        case measure => simp [intOf]; omega
                  · by_cases hE0 : E = 0
                    · as_aux_lemma =>
                      have g1_ : (xs != ys) = true := by simpa using hdf
                      obtain ⟨hz1_, hz2_⟩ := HRB.out hE0
                      obtain rfl := hz1_
                      obtain rfl := hz2_
                      subst hE0
                      go_wp2_with fail
                      go_quiet (fail)
                      go_wp2_with fail
                      go_quiet (fail)
                      go_wp2
                      go_roundw
                      case rel => exact ⟨j + 1, false, by omega, by go_num, rfl, rfl, HJ.out.drewN _⟩
                      case measure => simp [intOf]; omega
                    · as_aux_lemma =>
                      have g1_ : (xs != ys) = true := by simpa using hdf
                      have hE1 : (E == 0) = false := by simpa using hE0
                      clear hE0
                      go_wp2_with fail
                      go_quiet (fail)
                      go_wp2_with fail
                      go_quiet (fail)
                      go_wp2
                      go_roundw
                      case rel => exact ⟨j + 1, false, by omega, by go_num, rfl, rfl, HJ.out.drewN _⟩
                      case measure => simp [intOf]; omega
                · have hdf : xs = ys ∧ xm = ym := by
                    refine ⟨Decidable.not_not.1 fun h => ?_, Decidable.not_not.1 fun h => ?_⟩
                    · rcases HRA.out (.inl h) with h | h
                      · exact hch h
                      · exact hop1 h
                    · rcases HRA.out (.inr h) with h | h
                      · exact hch h
                      · exact hop1 h
                  have b1_ : ((j : Int) == lm) = false := by simpa using hch
                  have b2_ : (op % 4 == 1) = false := by simpa using hop1
                  clear hch hop1
                  by_cases hE0 : E = 0
                  · as_aux_lemma =>
                    obtain ⟨rfl, rfl⟩ := hdf
                    obtain ⟨hz1_, hz2_⟩ := HRB.out hE0
                    obtain rfl := hz1_
                    obtain rfl := hz2_
                    subst hE0
                    go_wp2_with fail
                    go_quiet (fail)
                    go_wp2_with fail
                    go_quiet (fail)
                    go_wp2
                    go_roundw
                    case rel => exact ⟨j + 1, ob, by omega, by go_num, rfl, rfl, HJ.out.drewN _⟩
                    case measure => simp [intOf]; omega
                  · as_aux_lemma =>
                    obtain ⟨rfl, rfl⟩ := hdf
                    have hE1 : (E == 0) = false := by simpa using hE0
                    clear hE0
                    go_wp2_with fail
                    go_quiet (fail)
                    go_wp2_with fail
                    go_quiet (fail)
                    go_wp2
                    go_roundw
                    case rel => exact ⟨j + 1, ob, by omega, by go_num, rfl, rfl, HJ.out.drewN _⟩
                    case measure => simp [intOf]; omega
            · obtain rfl : j = N := by omega
              have hep1 : K.l.ep < DD.l.ep := hepp.out
              have hep2 : decide (K.l.ep < DD.l.ep) = true := decide_eq_true hep1
              have HKZ := hid ((k0.out.trans KI.out).trans HJ.out)
              cases ob with
              | true =>
                go_wp2
                go_ret
                exact ⟨rfl, HKZ.out⟩
              | false =>
                go_wp2
                go_ret
                exact ⟨rfl, HKZ.out⟩
theorem walk (w : World) (a0 b0 : Int) (a1 : Value) (l1 : List A5) (a2 : A5) (w0 : (Lit.int .i64 a0).wf = true) (x0 : (Lit.int .i64 b0).wf = true) (w1 : Acts5 w a1 l1) (w2 : A5Ok w a2) :
    Calls Tryz.prog 5 #[.agg #[.int .i64 a0, .int .i64 b0], a1, a5V a2] w fun e w' => e = .returned (.bool true) ∧ Kp w w' := by
  exact walkN w a0 b0 (bounds_i64 w0) (bounds_i64 x0) a1 l1 w1 a2 w2

set_option maxRecDepth 100000 in
theorem lifted (os : Os) (started : os.Started) (H : Type) (enc : TypeId × Value → H) :
    ReturnsInHanded {} Tryz.checked os 5 .any (Rows.boardCrashSpec.pre6 enc Tryz.prog Tryz.f5 Rows.boardCrashRow.domain false) (Rows.boardCrashSpec.post enc Tryz.prog Tryz.f5 false true false false) := by
  refine returnsInHanded_of_change (C := Tryz.checked) own started (by kernel_rfl) Tryz.func5
    (ChangeSpec.witness6 (enc := enc) (C := Tryz.checked) false ⟨#[], #[.agg #[.int .i64 0, .int .i64 0], .slice none 0 0, .agg #[.int .i64 0, .int .i64 0, .int .i64 0, .bool false, .slice none 0 0]], []⟩ 8 (by kernel_rfl) (by kernel_rfl) (by kernel_rfl) (by kernel_rfl)) ?_
  intro W base args ds gs before hval0 hW hcnd _
  have hval : ∀ (j : Nat) t v, Tryz.f5.params[j]? = some t → args[j]? = some v → Value.okWide Tryz.prog W .any base t v := hval0
  have hW' := hW
  have hlt := hW.lt
  obtain ⟨p, q, hA0, hV, rfl, hfz, hnd⟩ := hW
  have hA : DataW.TrodAll enc Tryz.prog W 0 (fun _ => true) true Tryz.f5.params.toList args.toList ds p := hA0
  have hAk := hA
  rw [Tryz.params5] at hA hval
  obtain ⟨v0, vs0, d0, ds0, p0, q0, hargs, rfl, rfl, h0, r0⟩ := trodAll_cons hA
  obtain ⟨v1, vs1, d1, ds1, p1, q1, rfl, rfl, rfl, h1, r1⟩ := trodAll_cons r0
  obtain ⟨v2, vs2, d2, ds2, p2, q2, rfl, rfl, rfl, h2, r2⟩ := trodAll_cons r1
  obtain ⟨rfl, rfl, rfl⟩ := trodAll_nil r2
  obtain rfl : args = #[v0, v1, v2] := by cases args; simp_all
  obtain ⟨rfl, rfl⟩ := trodVars_none hV
  obtain ⟨a0, b0, rfl, w0, x0⟩ := open_ints2 Tryz.underlying22 Tryz.underlying3 cellsI cellsJ (hval 0 22 v0 rfl rfl) h0
  obtain ⟨l1, w1⟩ := open_as5 (hval 1 23 v1 rfl rfl) h1
  obtain ⟨a2, rfl, w2⟩ := open_a5 (hval 2 30 v2 rfl rfl) h2
  clear hA0 hval0
  simp only [List.append_nil] at hW' hAk hlt
  refine (walk W a0 b0 v1 l1 a2 w0 x0 w1 w2).mono fun e W' ⟨he, hg⟩ => ?_
  subst he
  exact ⟨_, rfl, post_kp (pv := []) hW' (fun _ _ _ => (trodAll_cons_mk (shut_bool Tryz.underlying4 _) trodAll_mk0)) (fun sp hsp => trodAll_stays laidOut (by rw [Tryz.params5]; exact of_decide_eq_true (by kernel_rfl)) hAk (fun x hx => Below.same hg (hlt x hx)) hsp) (fun _ _ => rfl) (by simp) hg⟩

theorem over : Rows.boardCrashRow.holds Tryz.pinned (OpenSpec.ofChange Rows.boardCrashSpec) :=
  OpenClaim.holds_of_wide 5 Tryz.f5 rfl rfl rfl rfl rfl rfl rfl ⟨rfl, rfl, rfl, rfl, rfl⟩ rfl rfl rfl rfl rfl (by kernel_rfl) Tryz.func5 (by kernel_rfl)
    (of_decide_eq_true (by kernel_rfl)) (by unfold Func.isWrapper; first | (rw [if_pos (by decide +kernel)]; kernel_rfl) | (rw [if_neg (by decide +kernel)]; exact ⟨rfl, rfl⟩))
    (fun os started H enc _ => lifted os started H enc)

end Go.Proofs.YtinpkfdmellleaaGreat.boardCrash
namespace Go.Proofs.YtinpkfdmellleaaGreat
theorem boardCrash_holds : Rows.BoardCrashSaid := boardCrash.over
end Go.Proofs.YtinpkfdmellleaaGreat
