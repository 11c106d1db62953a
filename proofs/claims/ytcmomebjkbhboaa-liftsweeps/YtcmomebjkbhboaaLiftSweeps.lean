/-
  LiftSweeps: for every input the law answers true, and its arguments read as before. No condition.
-/
import Derived.Test.YtcmomebjkbhboaaRows
import Derived.Test.YtcmomebjkbhboaaBufArgs
import Derived.Test.YtcmomebjkbhboaaLfBound
import Derived.WalkKit
import Derived.ProofKit
import Derived.OpenShut
import Derived.ShutString
import Derived.Deep.QuietTactic
import Derived.BigQuiet
import Derived.Deep.RegionWith
import Derived.Deep.RegionHeld3
import Derived.Deep.DeepCutAuto
import Derived.Deep.CutBlock
namespace Go.Proofs.Ytcmomebjkbhboaa.liftSweeps
open Go.ChangeShapes Go.WideShapes Go.ChangeAt Go.RowKit
open Go.ChangeMaps (open_string shut_string)
open Go.Proofs.Ytcmomebjkbhboaa Plain
set_option linter.unusedVariables false

theorem own : ownKnob Try.prog.godebug = none := by kernel_rfl
theorem laidOut : laidOutB Try.prog = true := by kernel_rfl
theorem sw_first (a : Int) (h : 0 ≤ a ∧ a < 1024) : adE ⟨[], 65536, 0⟩ a = 0 ∧ adS ⟨[], 65536, 0⟩ a = ⟨[⟨a, 0⟩], 65536, 0⟩ ∧ ∀ k, Nx ⟨[⟨a, 0⟩], 65536, 0⟩ k → k = a ∧ pkS ⟨[⟨a, 0⟩], 65536, 0⟩ k = ⟨[], 65536, a + 1⟩ := by
  have e : adE ⟨[], 65536, 0⟩ a = 0 := ad_iff.2 ⟨by omega, rfl, by simp⟩
  refine ⟨e, by rw [ad_ok e]; rfl, fun k hk => ?_⟩
  obtain ⟨⟨x, hx, ex⟩, _⟩ := hk
  obtain rfl : x = (⟨a, 0⟩ : Wt) := by simpa using hx
  obtain rfl : a = k := ex
  refine ⟨rfl, ?_⟩
  unfold pkS dlL
  simp
theorem tn_first (first : Int) (S : LS) (h : S.h = first + 1) : Tn S first first false := ⟨h, fun _ => ⟨Int.le_refl _, fun x _ => by omega⟩, fun e => by cases e⟩
set_option maxRecDepth 100000 in
set_option maxHeartbeats 8000000 in
theorem walk (w : World) (a0 : Value) (l0 : List Int) (a1 : Int) (w0 : IlIn w a0 l0) (w1 : (Lit.int .i64 a1).wf = true) :
    Calls Try.prog 5 #[a0, .int .i64 a1] w fun e w' => e = .returned (.bool true) ∧ Kp w w' := by
  clear w1
  obtain ⟨pa, pg, po, pc, rfl, hA⟩ := w0
  obtain ⟨ln, hln⟩ : ∃ ln, ln = l0.length := ⟨_, rfl⟩
  have hp1 := hA.le
  have hp2 := hA.mx
  unfold maxLen at hp2
  rw [← hln] at hp1 ⊢
  have hpa : 0 < ln → pa = some ⟨pg, po, none⟩ := by rw [hln]; exact hA.ha
  have HPC : Hid (∀ V, Kp w V → ∀ i, i < ln → V.cell? ⟨pg, po + i, none⟩ = some (.int .i64 (l0.getD i 0))) := fun V k i hi => k.held (hA.c i (by omega))
  clear hA hln
  obtain ⟨kk, ekk⟩ : ∃ k, k = min ln 200 := ⟨_, rfl⟩
  have hmin : ∀ ts t W, (Builtin.min_ ts t #[.int .i64 (ln : Int), .int .i64 200]).run Try.prog W = .ok (.int .i64 (kk : Int)) W := fun ts t W => by
    rw [imin ts t _ _ W]
    congr 2
    omega
  have hk1 : kk ≤ ln := by omega
  have hk200 : kk ≤ 200 := by omega
  clear ekk
  have hmm : ∀ (t : TypeId) (W : World), (Instr.makeMap t none).run Try.prog W = .ok (.map (some W.heap.size)) (W.alloc (.map #[] 0)) := fun _ _ => rfl
  have hmask := mask1023
  obtain ⟨fi, hfi⟩ : ∃ fi, fi = a1 % 1024 := ⟨_, rfl⟩
  have hm1 : bits .and .i64 a1 1023 = fi := by rw [hmask, hfi]
  have hfi1 : 0 ≤ fi ∧ fi < 1024 := by omega
  have HF := hid (sw_first fi hfi1)
  have HFI := hid hfi1
  have HMASK := hid hmask
  clear hfi hfi1 hmask
  have hN := Lu.new 65536 w
  rw [show gA 65536 = 65536 from rfl] at hN
  go_enter Try.func5, Try.ntmps5
  go_wp2_with fail
  refine hN.mono ?_; rintro e u1 ⟨l, rfl, x1⟩
  clear hN
  obtain ⟨U, hU⟩ : ∃ U, U = u1.alloc (.map #[] 0) := ⟨_, rfl⟩
  obtain ⟨M, hM⟩ : ∃ M, M = u1.heap.size := ⟨_, rfl⟩
  have kU : Kp u1 U := by rw [hU]; exact (Kp.refl u1).alloc _
  have hM0 : MpB U M 0 0 (fun _ => false) (.map []) := by rw [hU, hM]; exact MpB.made u1
  have hMw : w.heap.size ≤ M := by rw [hM]; exact x1.k.size
  have H0 : Hid (Lu w U l ⟨[], 65536, 0⟩ 0 [M] ∧ MpB U M 0 0 (fun _ => false) (.map [])) := ⟨x1.more kU (by omega) hM0.lt, hM0⟩
  have HU : Hid (U = u1.alloc (.map #[] 0) ∧ M = u1.heap.size) := ⟨hU, hM⟩
  have HMw := hid hMw
  clear hU hM kU hM0 hMw x1
  go_upto_region 4 with fail
  rw [← HU.out.1, ← HU.out.2]
  clear HU
  go_wp2_with fail
  refine (wakes_any U).mono ?_; rintro e u2 ⟨rfl, k2⟩
  obtain ⟨x2, j2⟩ := H0.out.1.kp k2
  have hAd := x2.add fi
  rw [HF.out.1, HF.out.2.1] at hAd
  have m2 := H0.out.2.blk (j2 M (by simp))
  have HM2 := hid m2
  clear x2 j2 m2 k2 H0
  go_wp2_with fail
  refine hAd.mono ?_; rintro e u3 ⟨rfl, x3, j3⟩
  have m3 := HM2.out.blk (j3 M (by simp))
  have hPi := x3.pick (by omega) (by simp)
  have HM3 := hid m3
  clear hAd x3 j3 m3 HM2
  go_wp2_with fail
  refine hPi.mono ?_; rintro e u4 ⟨k0, rfl, n4, x4, j4⟩
  obtain ⟨rfl, e4⟩ := HF.out.2.2 k0 n4
  rw [e4] at x4
  have m4 := HM3.out.blk (j4 M (by simp))
  have H4 : Hid (Lu w u4 l ⟨[], 65536, k0 + 1⟩ (0 + 1) [M] ∧ MpB u4 M 0 0 (fun _ => false) (.map [])) := ⟨x4, m4⟩
  clear hPi n4 x4 j4 e4 m4 HM3 HF
  go_upto_region 9 with fail
  go_cut [43, 44, 45] (fun p qq i wx => ∃ a', p = .slice a' kk pc ∧ qq = .int .i64 (kk : Int) ∧ i = .int .i64 ((0 : Nat) : Int) ∧ (0 < kk → a' = some ⟨pg, po, none⟩) ∧ u4 = wx)
  case first =>
    by_cases h0 : 0 < ln
    · obtain rfl := hpa h0
      go_wp2_with fail
      go_meet
      exact ⟨_, rfl, rfl, rfl, fun _ => rfl, rfl⟩
    · have hn0 : ln = 0 := by omega
      subst hn0
      obtain rfl : kk = 0 := by omega
      cases pa with
      | none =>
        go_wp2_with fail
        go_meet
        exact ⟨_, rfl, rfl, rfl, fun h => absurd h (by omega), rfl⟩
      | some ad =>
        go_wp2_with fail
        go_meet
        exact ⟨_, rfl, rfl, rfl, fun h => absurd h (by omega), rfl⟩
  case rest =>
  obtain ⟨a', rfl, rfl, rfl, ha', rfl⟩ := hcut
  go_wp2_with fail
  go_loopw [10, 45] (fun _ i wr => ∃ (k n c : Nat) (S : LS) (F : Int → Bool) (D : DataW Unit), k ≤ kk ∧ i = .int .i64 k ∧ n ≤ k ∧ c ≤ k ∧ Hid (Lu w wr l S 1 [M] ∧ MpB wr M n c F D ∧ Sw S F c ∧ S.h = k0 + 1)) (fun _ i _ => kk - (intOf i).toNat)
  case atStart => exact ⟨0, 0, 0, ⟨[], 65536, k0 + 1⟩, _, _, by omega, by go_num, by omega, by omega, ⟨H4.out.1, H4.out.2, Sw.new _, rfl⟩⟩
  case round =>
    clear H4
    obtain ⟨k, n, c, S, F, D, hk, rfl, hnk, hck, HQ⟩ := hrel
    by_cases hlt : k < kk
    · obtain rfl := ha' (by omega)
      have c0 := HPC.out wr HQ.out.1.k k (by omega)
      obtain ⟨z, hz⟩ : ∃ z, z = l0.getD k 0 := ⟨_, rfl⟩
      rw [← hz] at c0
      obtain ⟨b, hb⟩ : ∃ b, b = z % 1024 := ⟨_, rfl⟩
      have hmz : bits .and .i64 z 1023 = b := by rw [hb]; exact HMASK.out z
      have hbb : 0 ≤ b ∧ b < 1024 := by omega
      have hbok : iOk b := by unfold iOk; omega
      clear hz hb
      obtain ⟨hE, sw5⟩ := HQ.out.2.2.1.add hbb (by omega)
      have hlk : ∀ X, X.heap[M]? = wr.heap[M]? → (Instr.lookup 44 (.map (some M)) (.int .i64 b) false).run Try.prog X = .ok (.bool (F b)) X := fun X e => (HQ.out.2.1.blk e).look hbok
      have hPt := fun X (k : Kp wr X) => ((HQ.out.1.kp k).1.add b).mono fun e X' (h : e = .returned (.int .i64 (adE S b)) ∧ Lu w X' l (adS S b) 1 [M] ∧ Lk [M] X X') => (⟨h.1, h.2.1, (h.2.2 M (by simp)).trans ((HQ.out.1.kp k).2 M (by simp))⟩ : e = .returned (.int .i64 (adE S b)) ∧ (Lu w X' l (adS S b) 1 [M] ∧ X'.heap[M]? = wr.heap[M]?))
      have hS : ∀ X, Kp wr X → (Instr.lookup 44 (.map (some M)) (.int .i64 b) false).run Try.prog X = .ok (.bool (F b)) X := fun X k => hlk X ((HQ.out.1.kp k).2 M (by simp))
      have hS2 : ∀ X, (Lu w X l (adS S b) 1 [M] ∧ X.heap[M]? = wr.heap[M]?) → (Instr.lookup 44 (.map (some M)) (.int .i64 b) false).run Try.prog X = .ok (.bool (F b)) X := fun X h => hlk X h.2
      have hr0 : Kp wr wr := Kp.refl wr
      have hr1 : Kp wr wr.drew := (Kp.refl wr).drew
      have HSW := hid sw5
      have hSh : (adS S b).h = k0 + 1 := by rw [← HQ.out.2.2.2]; unfold adS; split <;> rfl
      have HSH := hid hSh
      have HBB := hid hbb
      obtain ⟨S', hS'⟩ : ∃ S', S' = adS S b := ⟨_, rfl⟩
      obtain ⟨ee, hee⟩ : ∃ ee, ee = adE S b := ⟨_, rfl⟩
      rw [← hS'] at HSW HSH hPt hS2
      rw [← hee] at hPt hE
      clear hlk sw5 hSh hbb hS' hee
      go_upto_region 13 with fail
      go_region_held3 (fun X => (Instr.lookup 44 (.map (some M)) (.int .i64 b) false).run Try.prog X = .ok (.bool (F b)) X) (first | exact hS _ (by assumption) | exact hS2 _ (by assumption)) (first
        | (go_at_call 14; refine (hPt _ (by assumption)).mono ?_; rintro e vb ⟨rfl, kb⟩))
      all_goals
        have mb := HQ.out.2.1.blk kb.2
        obtain ⟨w5, D5, hup, hM5, s5⟩ := mb.put hbok (by omega)
        have x5 := kb.1.sp s5 (fun t ht => by simp at ht; subst ht; exact ⟨by simp, HMw.out⟩)
        obtain ⟨c5, hc5⟩ : ∃ x, x = (if F b = true then c else c + 1) := ⟨_, rfl⟩
        rw [← hc5] at hM5 HSW
        have hc5k : c5 ≤ k + 1 := by rw [hc5]; split <;> omega
        have H5 : Hid (Lu w w5 l S' 1 [M] ∧ MpB w5 M (n + 1) c5 (fun j => if j = b then true else F j) D5 ∧ Sw S' (fun j => if j = b then true else F j) c5 ∧ S'.h = k0 + 1) := ⟨x5, hM5, HSW.out, HSH.out⟩
        cases hFb : F b with
        | true =>
          have he : (ee == 0) = false := by
            have : ¬ ee = 0 := fun h => by rw [hE.1 h] at hFb; cases hFb
            simpa using this
          rw [he, show (false == true) = false from rfl]
          clear hPt hS hS2 hr0 hr1 HSW HSH kb mb hM5 s5 x5 hc5 HQ HBB hE hFb
          go_wp2
          go_roundw
          case rel => first | exact ⟨k + 1, n + 1, c5, S', _, D5, by omega, by go_num, by omega, hc5k, H5⟩ | (repeat apply Exists.intro) <;> exact ⟨⟨k + 1, n + 1, c5, S', _, D5, by omega, by go_num, by omega, hc5k, H5⟩, rfl⟩
          case measure => simp [intOf]; omega
        | false =>
          have he : (ee == 0) = true := by
            have : ee = 0 := hE.2 hFb
            simpa using this
          rw [he, show (true == false) = false from rfl]
          clear hPt hS hS2 hr0 hr1 HSW HSH kb mb hM5 s5 x5 hc5 HQ HBB hE hFb
          go_wp2
          go_roundw
          case rel => first | exact ⟨k + 1, n + 1, c5, S', _, D5, by omega, by go_num, by omega, hc5k, H5⟩ | (repeat apply Exists.intro) <;> exact ⟨⟨k + 1, n + 1, c5, S', _, D5, by omega, by go_num, by omega, hc5k, H5⟩, rfl⟩
          case measure => simp [intOf]; omega
    · rename World => U1
      have hlen := HQ.out.2.1.len
      have hTn := tn_first k0 S HQ.out.2.2.2
      have H0 : Hid (∃ (S : LS) (F : Int → Bool) (D : DataW Unit), Lu w U1 l S (((0 : Nat) : Int) + 1) [M] ∧ MpB U1 M n (c - 0) F D ∧ Sw S F (c - 0) ∧ Tn S k0 k0 false) := ⟨S, F, D, HQ.out.1, HQ.out.2.1, HQ.out.2.2.1, hTn⟩
      have hcc : c ≤ 200 := by omega
      clear HQ hTn
      go_wp2_with fail
      go_loopw [11, 12, 13, 14, 65] (fun la tu _ _ i wr => ∃ (j : Nat) (z : Int) (t : Bool), j ≤ c ∧ i = .int .i64 j ∧ la = .int .i64 z ∧ tu = .bool t ∧ Hid (∃ (S : LS) (F : Int → Bool) (D : DataW Unit), Lu w wr l S ((j : Int) + 1) [M] ∧ MpB wr M n (c - j) F D ∧ Sw S F (c - j) ∧ Tn S k0 z t)) (fun _ _ _ _ i _ => c - (intOf i).toNat)
      case atStart => exact ⟨0, k0, false, by omega, by go_num, rfl, rfl, H0⟩
      case round =>
        clear H0
        obtain ⟨j, z, t, hj, rfl, rfl, rfl, HT⟩ := hrel
        by_cases hjc : j < c
        · obtain ⟨S2, F2, D2, x2, m2, sw2, tn2⟩ := HT.out
          have hP := x2.pick (by omega) (by rw [sw2.c]; omega)
          have hjc2 : (j : Int) < (c : Int) := by omega
          have HX := hid (And.intro x2 (And.intro m2 (And.intro sw2 tn2)))
          clear x2 m2 sw2 tn2 HT
          go_wp2_with fail
          refine hP.mono ?_; rintro e v1 ⟨k1, rfl, nx, x3, j3⟩
          obtain ⟨x2, m2, sw2, tn2⟩ := HX.out
          obtain ⟨f1, f2, f3⟩ := sw2.pick x2.g nx
          obtain ⟨g1, g2, g3⟩ := tn2.pick (by omega) x2.g sw2.g nx
          have hkok : iOk k1 := by unfold iOk; omega
          have m3 := m2.blk (j3 M (by simp))
          have hlk := m3.look hkok
          rw [f1] at hlk
          obtain ⟨w5, hdel, hM5, s5⟩ := m3.del hkok 0
          rw [f1, if_pos rfl] at hM5
          have x5 := x3.sp s5 (fun t ht => by simp at ht; subst ht; exact ⟨by simp, HMw.out⟩)
          have HG := hid (And.intro g1 g2)
          have HE : Hid (∃ (S : LS) (F : Int → Bool) (D : DataW Unit), Lu w w5 l S (((j + 1 : Nat) : Int) + 1) [M] ∧ MpB w5 M n (c - (j + 1)) F D ∧ Sw S F (c - (j + 1)) ∧ Tn S k0 k1 (t || decide (k1 ≤ z))) := ⟨_, _, _, by rw [show ((j + 1 : Nat) : Int) + 1 = (j : Int) + 1 + 1 by omega]; exact x5, by rw [show c - (j + 1) = c - j - 1 by omega]; exact hM5, by rw [show c - (j + 1) = c - j - 1 by omega]; exact f3, g3⟩
          clear hP nx x3 j3 x2 m2 sw2 tn2 f1 f2 f3 g1 g2 g3 m3 hM5 s5 x5 HX
          by_cases hkl : k1 ≤ z
          · have hd : decide (k1 ≤ z) = true := decide_eq_true hkl
            obtain rfl := HG.out.1 hkl
            have hd2 : decide (k0 < k1) = false := by
              have := HG.out.2 (by rw [hd]; rfl)
              simp; omega
            rw [hd] at HE
            clear HG hkl
            go_wp2
            go_roundw
            case rel => first | exact ⟨j + 1, k1, true, by omega, by go_num, rfl, rfl, HE⟩ | (repeat apply Exists.intro) <;> exact ⟨⟨j + 1, k1, true, by omega, by go_num, rfl, rfl, HE⟩, rfl⟩
            case measure => simp [intOf]; omega
          · have hd : decide (k1 ≤ z) = false := decide_eq_false hkl
            rw [hd, Bool.or_false] at HE
            cases t with
            | true =>
              have hd2 : decide (k0 < k1) = false := by
                have := HG.out.2 (by simp)
                simp; omega
              clear HG hkl
              go_wp2
              go_roundw
              case rel => first | exact ⟨j + 1, k1, true, by omega, by go_num, rfl, rfl, HE⟩ | (repeat apply Exists.intro) <;> exact ⟨⟨j + 1, k1, true, by omega, by go_num, rfl, rfl, HE⟩, rfl⟩
              case measure => simp [intOf]; omega
            | false =>
              clear HG hkl
              go_wp2
              go_roundw
              case rel => first | exact ⟨j + 1, k1, false, by omega, by go_num, rfl, rfl, HE⟩ | (repeat apply Exists.intro) <;> exact ⟨⟨j + 1, k1, false, by omega, by go_num, rfl, rfl, HE⟩, rfl⟩
              case measure => simp [intOf]; omega
        · obtain rfl : j = c := by omega
          obtain ⟨S2, F2, D2, x2, m2, sw2, tn2⟩ := HT.out
          rw [Nat.sub_self] at m2 sw2
          have hlen2 := m2.len
          have hL := x2.len
          rw [sw2.c] at hL
          have HK := hid x2.k
          clear hlen x2 m2 sw2 tn2 HT
          go_wp2_with fail
          refine hL.mono ?_; rintro e v1 ⟨rfl, x3, _⟩
          have HE := hid x3.k
          clear hL x3 HK
          go_wp2
          go_ret
          exact ⟨rfl, HE.out⟩

set_option maxRecDepth 100000 in
theorem lifted (os : Os) (started : os.Started) (H : Type) (enc : TypeId × Value → H) :
    ReturnsInHanded {} Try.checked os 5 .any (Rows.liftSweepsSpec.pre6 enc Try.prog Try.f5 Rows.liftSweepsRow.domain false) (Rows.liftSweepsSpec.post enc Try.prog Try.f5 false true false false) := by
  refine returnsInHanded_of_change (C := Try.checked) own started (by kernel_rfl) Try.func5
    (ChangeSpec.witness6 (enc := enc) (C := Try.checked) false ⟨#[], #[.slice none 0 0, .int .i64 0], []⟩ 8 (by kernel_rfl) (by kernel_rfl) (by kernel_rfl) (by kernel_rfl)) ?_
  intro W base args ds gs before hval0 hW hcnd _
  have hval : ∀ (j : Nat) t v, Try.f5.params[j]? = some t → args[j]? = some v → Value.okWide Try.prog W .any base t v := hval0
  have hW' := hW
  have hlt := hW.lt
  obtain ⟨p, q, hA0, hV, rfl, hfz, hnd⟩ := hW
  have hA : DataW.TrodAll enc Try.prog W 0 (fun _ => true) true Try.f5.params.toList args.toList ds p := hA0
  have hAk := hA
  rw [Try.params5] at hA hval
  obtain ⟨v0, vs0, d0, ds0, p0, q0, hargs, rfl, rfl, h0, r0⟩ := trodAll_cons hA
  obtain ⟨v1, vs1, d1, ds1, p1, q1, rfl, rfl, rfl, h1, r1⟩ := trodAll_cons r0
  obtain ⟨rfl, rfl, rfl⟩ := trodAll_nil r1
  obtain rfl : args = #[v0, v1] := by cases args; simp_all
  obtain ⟨rfl, rfl⟩ := trodVars_none hV
  obtain ⟨l0, w0⟩ := open_ints21 (hval 0 43 v0 rfl rfl) h0
  obtain ⟨a1, rfl, rfl, rfl, w1⟩ := open_int Try.underlying3 (hval 1 3 v1 rfl rfl) h1
  clear hA0 hval0
  simp only [List.append_nil] at hW' hAk hlt
  refine (walk W v0 l0 a1 w0 w1).mono fun e W' ⟨he, hg⟩ => ?_
  subst he
  exact ⟨_, rfl, post_kp (pv := []) hW' (fun _ _ _ => (trodAll_cons_mk (shut_bool Try.underlying4 _) trodAll_mk0)) (fun sp hsp => trodAll_stays laidOut (by rw [Try.params5]; exact of_decide_eq_true (by kernel_rfl)) hAk (fun x hx => Below.same hg (hlt x hx)) hsp) (fun _ _ => rfl) (by simp) hg⟩

theorem over : Rows.liftSweepsRow.holds Try.pinned (OpenSpec.ofChange Rows.liftSweepsSpec) :=
  OpenClaim.holds_of_wide 5 Try.f5 rfl rfl rfl rfl rfl rfl rfl ⟨rfl, rfl, rfl, rfl, rfl⟩ rfl rfl rfl rfl rfl (by kernel_rfl) Try.func5 (by kernel_rfl)
    (of_decide_eq_true (by kernel_rfl)) (by unfold Func.isWrapper; first | (rw [if_pos (by decide +kernel)]; kernel_rfl) | (rw [if_neg (by decide +kernel)]; exact ⟨rfl, rfl⟩))
    (fun os started H enc _ => lifted os started H enc)

end Go.Proofs.Ytcmomebjkbhboaa.liftSweeps
namespace Go.Proofs.Ytcmomebjkbhboaa
theorem liftSweeps_holds : Rows.LiftSweepsSaid := liftSweeps.over
end Go.Proofs.Ytcmomebjkbhboaa
