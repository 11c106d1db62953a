/-
  LiftBound: for every input the law answers true, and its arguments read as before. No condition.
-/
import Derived.Test.YtcmomebjkbhboaaRows
import Derived.Test.YtcmomebjkbhboaaBufArgs
import Derived.Test.YtcmomebjkbhboaaLfBound
import Derived.WalkKit
import Derived.ProofKit
import Derived.OpenShut
import Derived.ShutString
import Derived.Deep.QuietTactic
import Derived.BigQuiet
import Derived.Deep.RegionWith
import Derived.Deep.RegionHeld3
import Derived.Deep.DeepCutAuto
import Derived.Deep.CutBlock
namespace Go.Proofs.Ytcmomebjkbhboaa.liftBound
open Go.ChangeShapes Go.WideShapes Go.ChangeAt Go.RowKit
open Go.ChangeMaps (open_string shut_string)
open Go.Proofs.Ytcmomebjkbhboaa Plain
set_option linter.unusedVariables false

theorem own : ownKnob Try.prog.godebug = none := by kernel_rfl
theorem laidOut : laidOutB Try.prog = true := by kernel_rfl
set_option maxRecDepth 100000 in
set_option maxHeartbeats 8000000 in
theorem walk (w : World) (a0 : Int) (a1 : Value) (l1 : List Wt) (w0 : (Lit.int .i64 a0).wf = true) (w1 : WtIn w a1 l1) :
    Calls Try.prog 4 #[.int .i64 a0, a1] w fun e w' => e = .returned (.bool true) ∧ Kp w w' := by
  clear w0
  obtain ⟨pa, pg, po, pc, rfl, hA⟩ := w1
  obtain ⟨ln, hln⟩ : ∃ ln, ln = l1.length := ⟨_, rfl⟩
  have hp1 := hA.le
  have hp2 := hA.mx
  unfold maxLen at hp2
  rw [← hln] at hp1 ⊢
  have hpa : 0 < ln → pa = some ⟨pg, po, none⟩ := by rw [hln]; exact hA.ha
  have HPC : Hid (∀ V, Kp w V → ∀ i, i < ln → V.cell? ⟨pg, po + i * 2, none⟩ = some (.int .i64 (l1.getD i wz).k) ∧ V.cell? ⟨pg, po + i * 2 + 1, none⟩ = some (.int .i64 (l1.getD i wz).n)) := fun V k i hi => ⟨k.held (hA.c0 i (by omega)), k.held (hA.c1 i (by omega))⟩
  clear hA hln
  obtain ⟨kk, ekk⟩ : ∃ k, k = min ln 150 := ⟨_, rfl⟩
  have hmin : ∀ ts t W, (Builtin.min_ ts t #[.int .i64 (ln : Int), .int .i64 150]).run Try.prog W = .ok (.int .i64 (kk : Int)) W := fun ts t W => by
    rw [imin ts t _ _ W]
    congr 2
    omega
  have hk1 : kk ≤ ln := by omega
  have hk150 : kk ≤ 150 := by omega
  clear ekk
  obtain ⟨mb, hmb⟩ : ∃ mb, mb = max 0 a0 := ⟨_, rfl⟩
  have hmax : ∀ ts t W, (Builtin.max_ ts t #[.int .i64 0, .int .i64 a0]).run Try.prog W = .ok (.int .i64 mb) W := fun ts t W => by rw [hmb]; exact imax ts t 0 a0 W
  obtain ⟨r, hr⟩ : ∃ r : Int, r = mb % 20 := ⟨_, rfl⟩
  have htm : mb.tmod 20 = r := by rw [Int.tmod_eq_emod_of_nonneg (by omega), hr]
  have hr0 : 0 ≤ r ∧ r < 20 := by omega
  obtain ⟨ag, hag⟩ : ∃ ag : Int, ag = 1 + r := ⟨_, rfl⟩
  have hw0 : IntKind.i64.wrap (1 + r) = ag := by rw [IntKind.wrap_i64]; omega
  have hag1 : 1 ≤ ag ∧ ag ≤ 20 := by omega
  have hmm : ∀ (t : TypeId) (W : World), (Instr.makeMap t none).run Try.prog W = .ok (.map (some W.heap.size)) (W.alloc (.map #[] 0)) := fun _ _ => rfl
  have hN := Lu.new ag w
  have HM3 := hid mask3
  have HM63 := hid mask63
  obtain ⟨hag2, hag3⟩ := hag1
  clear hmb hr hr0
  go_enter Try.func4, Try.ntmps4
  go_upto_region 2 with fail
  rw [show (1 : Int) + r = ag from hag.symm]
  clear hag hw0 htm hmax
  go_wp2_with fail
  refine hN.mono ?_; rintro e u1 ⟨l, rfl, x1⟩
  clear hN
  obtain ⟨U, hU⟩ : ∃ U, U = u1.alloc (.map #[] 0) := ⟨_, rfl⟩
  obtain ⟨M, hM⟩ : ∃ M, M = u1.heap.size := ⟨_, rfl⟩
  have kU : Kp u1 U := by rw [hU]; exact (Kp.refl u1).alloc _
  have hM0 : MpI U M 0 0 (fun _ => none) (.map []) := by rw [hU, hM]; exact MpI.made u1
  have hMw : w.heap.size ≤ M := by rw [hM]; exact x1.k.size
  have H0 : Hid (Lu w U l ⟨[], gA ag, 0⟩ 0 [M] ∧ MpI U M 0 0 (fun _ => none) (.map [])) := ⟨x1.more kU (by omega) hM0.lt, hM0⟩
  have HU : Hid (U = u1.alloc (.map #[] 0) ∧ M = u1.heap.size) := ⟨hU, hM⟩
  have HMw := hid hMw
  clear hU hM kU hM0 hMw x1
  go_upto_region 5 with fail
  rw [← HU.out.1, ← HU.out.2]
  clear HU
  go_wp2_with fail
  refine (wakes_any U).mono ?_; rintro e u2 ⟨rfl, k2⟩
  obtain ⟨x2, j2⟩ := H0.out.1.kp k2
  have m2 := H0.out.2.blk (j2 M (by simp))
  have H2 : Hid (Lu w u2 l ⟨[], gA ag, 0⟩ ((0 : Nat) : Int) [M] ∧ MpI u2 M 0 0 (fun _ => none) (.map []) ∧ Bd ⟨[], gA ag, 0⟩ (fun _ => none) 0 ((0 : Nat) : Int) ag) := ⟨x2, m2, Bd.new ag hag2 hag3⟩
  clear x2 j2 m2 k2 H0
  go_upto_region 7 with fail
  go_cut [29, 30, 31] (fun p qq i wx => ∃ a', p = .slice a' kk pc ∧ qq = .int .i64 (kk : Int) ∧ i = .int .i64 ((0 : Nat) : Int) ∧ (0 < kk → a' = some ⟨pg, po, none⟩) ∧ u2 = wx)
  case first =>
    by_cases h0 : 0 < ln
    · obtain rfl := hpa h0
      go_wp2_with fail
      go_meet
      exact ⟨_, rfl, rfl, rfl, fun _ => rfl, rfl⟩
    · have hn0 : ln = 0 := by omega
      subst hn0
      obtain rfl : kk = 0 := by omega
      cases pa with
      | none =>
        go_wp2_with fail
        go_meet
        exact ⟨_, rfl, rfl, rfl, fun h => absurd h (by omega), rfl⟩
      | some ad =>
        go_wp2_with fail
        go_meet
        exact ⟨_, rfl, rfl, rfl, fun h => absurd h (by omega), rfl⟩
  case rest =>
  obtain ⟨a', rfl, rfl, rfl, ha', rfl⟩ := hcut
  go_wp2_with fail
  go_loopw [7, 10, 11, 13, 14, 15, 31] (fun p _ _ _ _ _ i wr => ∃ (k n c q : Nat) (S : LS) (F : Int → Option Int) (D : DataW Unit), k ≤ kk ∧ i = .int .i64 k ∧ p = .int .i64 q ∧ n ≤ k ∧ c ≤ k ∧ q ≤ k ∧ Hid (Lu w wr l S (q : Int) [M] ∧ MpI wr M n c F D ∧ Bd S F c (q : Int) ag)) (fun _ _ _ _ _ _ i _ => kk - (intOf i).toNat)
  case atStart => exact ⟨0, 0, 0, 0, ⟨[], gA ag, 0⟩, _, _, by omega, by go_num, rfl, by omega, by omega, by omega, H2⟩
  case round =>
    clear H2
    obtain ⟨k, n, c, q, S, F, D, hk, rfl, rfl, hnk, hck, hqk, HQ⟩ := hrel
    by_cases hlt : k < kk
    · obtain rfl := ha' (by omega)
      obtain ⟨c0, c1⟩ := HPC.out wr HQ.out.1.k k (by omega)
      obtain ⟨dd, hdd⟩ : ∃ z, z = (l1.getD k wz).k := ⟨_, rfl⟩
      obtain ⟨ky, hky⟩ : ∃ z, z = (l1.getD k wz).n := ⟨_, rfl⟩
      rw [← hdd] at c0
      rw [← hky] at c1
      obtain ⟨V, hV⟩ : ∃ V, V = wr.alloc (.cells #[.int .i64 dd, .int .i64 ky] 29) := ⟨_, rfl⟩
      obtain ⟨H, hH⟩ : ∃ H, H = wr.heap.size := ⟨_, rfl⟩
      have e0 : V.cell? ⟨H, 0, none⟩ = some (.int .i64 dd) := by rw [hV, hH, World.cell?_alloc_at _ _ _ _ rfl]; rfl
      have e1 : V.cell? ⟨H, 1, none⟩ = some (.int .i64 ky) := by rw [hV, hH, World.cell?_alloc_at _ _ _ _ rfl]; rfl
      have kV : Kp wr V := by rw [hV]; exact (Kp.refl wr).alloc _
      have HV : Hid (V = wr.alloc (.cells #[.int .i64 dd, .int .i64 ky] 29) ∧ H = wr.heap.size) := ⟨hV, hH⟩
      obtain ⟨x, j⟩ := HQ.out.1.kp kV
      have HX : Hid (Lu w V l S (q : Int) [M] ∧ MpI V M n c F D ∧ Bd S F c (q : Int) ag) := ⟨x, HQ.out.2.1.blk (j M (by simp)), HQ.out.2.2⟩
      clear hdd hky hV hH kV x j HQ
      go_upto_region 10 with fail
      rw [← HV.out.1, ← HV.out.2]
      clear HV c0 c1
      have hm3 := HM3.out dd
      have hm63 := HM63.out ky
      obtain ⟨d4, hd4⟩ : ∃ d4, d4 = dd % 4 := ⟨_, rfl⟩
      obtain ⟨b, hb⟩ : ∃ b, b = ky % 64 := ⟨_, rfl⟩
      rw [← hd4] at hm3
      rw [← hb] at hm63
      have hbb : 0 ≤ b ∧ b < 64 := by omega
      clear hd4 hb
      by_cases hd2 : d4 = 2
      · have hd3 : (d4 == 2) = true := by simp [hd2]
        clear hd2
        by_cases hl0 : S.L.length = 0
        · have hP := HX.out.1.pick0 hl0
          clear hl0
          go_wp2_with fail
          refine hP.mono ?_; rintro e v1 ⟨rfl, x2, j2⟩
          have HX2 : Hid (Lu w v1 l S (q : Int) [M] ∧ MpI v1 M n c F D ∧ Bd S F c (q : Int) ag) := ⟨x2, HX.out.2.1.blk (j2 M (by simp)), HX.out.2.2⟩
          clear hP x2 j2 HX
          go_wp2
          go_roundw
          case rel => first | exact ⟨k + 1, n, c, q, S, F, D, by omega, by go_num, rfl, by omega, by omega, by omega, HX2⟩ | (repeat apply Exists.intro) <;> exact ⟨⟨k + 1, n, c, q, S, F, D, by omega, by go_num, rfl, by omega, by omega, by omega, HX2⟩, rfl⟩
          case measure => simp [intOf]; omega
        · have hP := HX.out.1.pick (by omega) (by omega)
          clear hl0
          go_wp2_with fail
          refine hP.mono ?_; rintro e v1 ⟨k1, rfl, nx, x2, j2⟩
          obtain ⟨dv, hdv, hdl⟩ := HX.out.2.2.at nx
          have m2 := HX.out.2.1.blk (j2 M (by simp))
          have hkok : iOk k1 := by
            obtain ⟨⟨y, hy, ey⟩, _⟩ := nx
            have := HX.out.1.g.r y hy
            unfold iOk; omega
          have bd2 := HX.out.2.2.pick HX.out.1.g nx
          have hlk := m2.look hkok hdv
          obtain ⟨w5, hdel, hM5, s5⟩ := m2.del hkok 0
          have hlk1 : (if (F k1).isSome = true then c - 1 else c) ≤ k := by split <;> omega
          obtain ⟨c5, hc5⟩ : ∃ x, x = (if (F k1).isSome = true then c - 1 else c) := ⟨_, rfl⟩
          rw [← hc5] at hM5 bd2 hlk1
          have x5 := x2.sp s5 (fun t ht => by simp at ht; subst ht; exact ⟨by simp, HMw.out⟩)
          have H5 : Hid (Lu w w5 l (pkS S k1) ((q : Int) + 1) [M] ∧ MpI w5 M n c5 (fun j => if j = k1 then none else F j) (D.del (.int .i64 k1)) ∧ Bd (pkS S k1) (fun j => if j = k1 then none else F j) c5 ((q : Int) + 1) ag) := ⟨x5, hM5, bd2⟩
          have hown := hM5.own
          have hdl2 : decide (dv < (q : Int) + 1) = false := by simp; omega
          have hdl3 : ¬ (dv < (q : Int) + 1) := by omega
          clear hP nx x2 j2 m2 bd2 hM5 s5 x5 hc5 HX hdv hdl
          have hq1 : IntKind.i64.wrap ((q : Int) + 1) = (q : Int) + 1 := by rw [IntKind.wrap_i64]; omega
          go_wp2_with (at_range; refine wpList_range_own _ rfl _ 41 rfl 3 3 int_key Try.underlying41 _ M n (D.del (.int .i64 k1)) rfl hown ?_; intro wi hrg0 hg0 hs0)
          go_frame
          have hKi : Kp w5 wi := by
            refine ⟨hg0.os, hg0.tape, hg0.output, hg0.size, fun k hk => hg0.block k hk (by simp)⟩
          obtain ⟨D', hD'⟩ : ∃ D', D' = D.del (.int .i64 k1) := ⟨_, rfl⟩
          rw [← hD'] at hrg0 H5
          obtain ⟨F', hF'⟩ : ∃ F' : Int → Option Int, F' = fun j => if j = k1 then none else F j := ⟨_, rfl⟩
          rw [← hF'] at H5
          have H0 : Hid (wi.ranges Try.prog 3 (plainElem Try.prog 3) M w5.heap.size n D' (Maps.has D') (Maps.size D') ∧ (∀ kl, Maps.has D' kl = true → Maps.has D' kl = true) ∧ Kp w5 wi) := ⟨hrg0, fun _ h => h, hKi⟩
          clear hrg0 hg0 hs0 hKi hown hdel hlk hD' hF'
          go_loopw [13] (fun _ w7 => ∃ (left : Lit → Bool) (cnt : Nat), Hid (w7.ranges Try.prog 3 (plainElem Try.prog 3) M w5.heap.size n D' left cnt ∧ (∀ kl, left kl = true → Maps.has D' kl = true) ∧ Kp w5 w7)) (fun _ w7 => w7.rangeLeft M w5.heap.size)
          case atStart => exact ⟨_, _, H0⟩
          case round =>
            clear H0
            obtain ⟨left, cnt, HL⟩ := hrel
            rename World => wo
            go_wp2_with (at_next; refine wpList_next_ranges_ii _ rfl _ rfl 3 3 .i64 .i64 int_key Try.underlying3 Try.underlying3 M w5.heap.size n D' left cnt rfl HL.out.1 ?_ ?_)
            · intro h0 hl0
              obtain ⟨x7, j7⟩ := H5.out.1.kp HL.out.2.2
              have H7 : Hid (Lu w wo l (pkS S k1) ((q + 1 : Nat) : Int) [M] ∧ MpI wo M n c5 F' D' ∧ Bd (pkS S k1) F' c5 ((q + 1 : Nat) : Int) ag) := by
                rw [show ((q + 1 : Nat) : Int) = (q : Int) + 1 by omega]
                exact ⟨x7, H5.out.2.1.blk (j7 M (by simp)), H5.out.2.2⟩
              clear HL h0 hl0 x7 j7 H5
              go_wp2
              go_roundw
              case rel => first | exact ⟨k + 1, n, c5, q + 1, pkS S k1, F', D', by omega, by go_num, by go_num, by omega, by omega, by omega, H7⟩ | (repeat apply Exists.intro) <;> exact ⟨⟨k + 1, n, c5, q + 1, pkS S k1, F', D', by omega, by go_num, by go_num, by omega, by omega, by omega, H7⟩, rfl⟩
              case measure => simp [intOf]; omega
            · intro x c' w7 cnt1 hwx hwc hlk hat2 hrg1 hlt2 hg1 hs1 hen
              have hxok : iOk x := wf_le hwx
              have k7 : Kp w5 w7 := HL.out.2.2.grown hg1 (fun j hj => by cases hj; exact Nat.le_refl _)
              have hc' : (q : Int) + 1 + 1 ≤ c' := by
                obtain ⟨a1, a2⟩ := H5.out.2.1.at_ x hxok
                rw [HL.out.2.1 _ hlk] at a1
                obtain ⟨d, hd⟩ := Option.isSome_iff_exists.1 a1.symm
                have a3 := a2 d hd (.lit (.bool false))
                rw [hat2] at a3
                have a4 := H5.out.2.2.all x d hd
                have : c' = d := by
                  injection a3 with a3
                  injection a3
                omega
              have hc2 : decide (c' < (q : Int) + 1) = false := by simp; omega
              have hc3 : ¬ (c' < (q : Int) + 1) := by omega
              have HL1 : Hid (w7.ranges Try.prog 3 (plainElem Try.prog 3) M w5.heap.size n D' (fun z => left z && !z.sameKey (.int .i64 x)) cnt1 ∧ (∀ kl, (left kl && !kl.sameKey (.int .i64 x)) = true → Maps.has D' kl = true) ∧ Kp w5 w7) := ⟨hrg1, fun kl h => HL.out.2.1 kl (by rw [Bool.and_eq_true] at h; exact h.1), k7⟩
              have HM : Hid (wo.rangeLeft M w5.heap.size = cnt ∧ cnt1 < cnt) := ⟨HL.out.1.left_eq, hlt2⟩
              clear hlk hat2 hrg1 hlt2 hg1 hs1 k7 HL hwx hwc hc'
              go_wp2
              go_roundw
              case rel => first | exact ⟨_, _, HL1⟩ | (repeat apply Exists.intro) <;> exact ⟨⟨_, _, HL1⟩, rfl⟩
              case measure => rw [HL1.out.1.left_eq, HM.out.1]; exact HM.out.2
      · have hd3 : (d4 == 2) = false := by simp [hd2]
        clear hd2
        have hL := HX.out.1.len
        go_wp2_with fail
        refine hL.mono ?_; rintro e v1 ⟨rfl, x2, j2⟩
        have hAd := x2.add b
        have HX2 : Hid (Lu w v1 l S (q : Int) [M] ∧ MpI v1 M n c F D ∧ Bd S F c (q : Int) ag) := ⟨x2, HX.out.2.1.blk (j2 M (by simp)), HX.out.2.2⟩
        obtain ⟨nl, hnl⟩ : ∃ nl, nl = S.L.length := ⟨_, rfl⟩
        rw [← hnl]
        have hnl2 : nl ≤ 256 := by rw [hnl]; exact x2.g.len
        have HNL := hid hnl
        clear hL x2 j2 HX hnl
        go_wp2_with fail
        refine hAd.mono ?_; rintro e v2 ⟨rfl, x3, j3⟩
        have m3 := HX2.out.2.1.blk (j3 M (by simp))
        by_cases he : adE S b = 0
        · have bd3 := HX2.out.2.2.add HX2.out.1.g he
          rw [← HNL.out] at bd3
          obtain ⟨w5, D5, hup, hM5, s5⟩ := m3.put (i := b) (by unfold iOk; omega) (by omega) (s := (q : Int) + ag + (nl : Int) + 1) (by unfold iOk; omega)
          have x5 := x3.sp s5 (fun t ht => by simp at ht; subst ht; exact ⟨by simp, HMw.out⟩)
          obtain ⟨c5, hc5⟩ : ∃ x, x = (if (F b).isSome = true then c else c + 1) := ⟨_, rfl⟩
          rw [← hc5] at hM5 bd3
          have hc5k : c5 ≤ k + 1 := by rw [hc5]; split <;> omega
          have H5 : Hid (Lu w w5 l (adS S b) (q : Int) [M] ∧ MpI w5 M (n + 1) c5 (fun j => if j = b then some ((q : Int) + ag + (nl : Int) + 1) else F j) D5 ∧ Bd (adS S b) (fun j => if j = b then some ((q : Int) + ag + (nl : Int) + 1) else F j) c5 (q : Int) ag) := ⟨x5, hM5, bd3⟩
          rw [he]
          have w1 : IntKind.i64.wrap ((q : Int) + ag) = (q : Int) + ag := by rw [IntKind.wrap_i64]; omega
          have w2 : IntKind.i64.wrap ((q : Int) + ag + (nl : Int)) = (q : Int) + ag + (nl : Int) := by rw [IntKind.wrap_i64]; omega
          have w3 : IntKind.i64.wrap ((q : Int) + ag + (nl : Int) + 1) = (q : Int) + ag + (nl : Int) + 1 := by rw [IntKind.wrap_i64]; omega
          clear hAd x3 j3 m3 bd3 hM5 s5 x5 hc5 HX2 he
          go_wp2
          go_roundw
          case rel => first | exact ⟨k + 1, n + 1, c5, q, adS S b, _, D5, by omega, by go_num, rfl, by omega, hc5k, by omega, H5⟩ | (repeat apply Exists.intro) <;> exact ⟨⟨k + 1, n + 1, c5, q, adS S b, _, D5, by omega, by go_num, rfl, by omega, hc5k, by omega, H5⟩, rfl⟩
          case measure => simp [intOf]; omega
        · have HX3 : Hid (Lu w v2 l S (q : Int) [M] ∧ MpI v2 M n c F D ∧ Bd S F c (q : Int) ag) := ⟨by rw [ad_no he] at x3; exact x3, m3, HX2.out.2.2⟩
          obtain ⟨ee, hee⟩ : ∃ ee, ee = adE S b := ⟨_, rfl⟩
          rw [← hee] at he ⊢
          have he2 : (ee == 0) = false := by simpa using he
          clear hAd x3 j3 m3 HX2 he hee
          go_wp2
          go_roundw
          case rel => first | exact ⟨k + 1, n, c, q, S, F, D, by omega, by go_num, rfl, by omega, by omega, by omega, HX3⟩ | (repeat apply Exists.intro) <;> exact ⟨⟨k + 1, n, c, q, S, F, D, by omega, by go_num, rfl, by omega, by omega, by omega, HX3⟩, rfl⟩
          case measure => simp [intOf]; omega
    · rename World => U1
      have hlen := HQ.out.2.1.len
      have hL := HQ.out.1.len
      rw [HQ.out.2.2.c] at hL
      have HX := hid (And.intro HQ.out.1 HQ.out.2.1)
      clear hlen HQ
      go_wp2_with fail
      refine hL.mono ?_; rintro e v1 ⟨rfl, x2, j2⟩
      have hlen := (HX.out.2.blk (j2 M (by simp))).len
      have HE := hid x2.k
      clear hL x2 j2 HX
      go_wp2
      go_ret
      exact ⟨by simp, HE.out⟩

set_option maxRecDepth 100000 in
theorem lifted (os : Os) (started : os.Started) (H : Type) (enc : TypeId × Value → H) :
    ReturnsInHanded {} Try.checked os 4 .any (Rows.liftBoundSpec.pre6 enc Try.prog Try.f4 Rows.liftBoundRow.domain false) (Rows.liftBoundSpec.post enc Try.prog Try.f4 false true false false) := by
  refine returnsInHanded_of_change (C := Try.checked) own started (by kernel_rfl) Try.func4
    (ChangeSpec.witness6 (enc := enc) (C := Try.checked) false ⟨#[], #[.int .i64 0, .slice none 0 0], []⟩ 8 (by kernel_rfl) (by kernel_rfl) (by kernel_rfl) (by kernel_rfl)) ?_
  intro W base args ds gs before hval0 hW hcnd _
  have hval : ∀ (j : Nat) t v, Try.f4.params[j]? = some t → args[j]? = some v → Value.okWide Try.prog W .any base t v := hval0
  have hW' := hW
  have hlt := hW.lt
  obtain ⟨p, q, hA0, hV, rfl, hfz, hnd⟩ := hW
  have hA : DataW.TrodAll enc Try.prog W 0 (fun _ => true) true Try.f4.params.toList args.toList ds p := hA0
  have hAk := hA
  rw [Try.params4] at hA hval
  obtain ⟨v0, vs0, d0, ds0, p0, q0, hargs, rfl, rfl, h0, r0⟩ := trodAll_cons hA
  obtain ⟨v1, vs1, d1, ds1, p1, q1, rfl, rfl, rfl, h1, r1⟩ := trodAll_cons r0
  obtain ⟨rfl, rfl, rfl⟩ := trodAll_nil r1
  obtain rfl : args = #[v0, v1] := by cases args; simp_all
  obtain ⟨rfl, rfl⟩ := trodVars_none hV
  obtain ⟨a0, rfl, rfl, rfl, w0⟩ := open_int Try.underlying3 (hval 0 3 v0 rfl rfl) h0
  obtain ⟨l1, w1⟩ := open_as21 (hval 1 22 v1 rfl rfl) h1
  clear hA0 hval0
  simp only [List.append_nil] at hW' hAk hlt
  refine (walk W a0 v1 l1 w0 w1).mono fun e W' ⟨he, hg⟩ => ?_
  subst he
  exact ⟨_, rfl, post_kp (pv := []) hW' (fun _ _ _ => (trodAll_cons_mk (shut_bool Try.underlying4 _) trodAll_mk0)) (fun sp hsp => trodAll_stays laidOut (by rw [Try.params4]; exact of_decide_eq_true (by kernel_rfl)) hAk (fun x hx => Below.same hg (hlt x hx)) hsp) (fun _ _ => rfl) (by simp) hg⟩

theorem over : Rows.liftBoundRow.holds Try.pinned (OpenSpec.ofChange Rows.liftBoundSpec) :=
  OpenClaim.holds_of_wide 4 Try.f4 rfl rfl rfl rfl rfl rfl rfl ⟨rfl, rfl, rfl, rfl, rfl⟩ rfl rfl rfl rfl rfl (by kernel_rfl) Try.func4 (by kernel_rfl)
    (of_decide_eq_true (by kernel_rfl)) (by unfold Func.isWrapper; first | (rw [if_pos (by decide +kernel)]; kernel_rfl) | (rw [if_neg (by decide +kernel)]; exact ⟨rfl, rfl⟩))
    (fun os started H enc _ => lifted os started H enc)

end Go.Proofs.Ytcmomebjkbhboaa.liftBound
namespace Go.Proofs.Ytcmomebjkbhboaa
theorem liftBound_holds : Rows.LiftBoundSaid := liftBound.over
end Go.Proofs.Ytcmomebjkbhboaa
