/-
  RowWrites: for every input the law answers true, and its arguments read as before. The condition: the library's table reads as it is laid.
-/
import Derived.Test.YtonooelffokfkaaGreatDoorRows
import Derived.Test.YtonooelffokfkaaGreatDoorCards
import Derived.Test.YtonooelffokfkaaGreatDoorTie
import Derived.Test.YtonooelffokfkaaGreatDoorZSet
import Derived.Test.YtonooelffokfkaaGreatDoorZRwCl
import Derived.WalkKit
import Derived.ProofKit
import Derived.OpenShut
import Derived.ShutString
import Derived.LaidMore
import Derived.SevenTiedAt
import Derived.Stop.Joined
import Derived.Deep.DeepCutAuto
namespace Go.Proofs.YtonooelffokfkaaGreatDoor.rowWrites
open Go.ChangeShapes Go.WideShapes Go.ChangeAt Go.RowKit
open Go.ChangeMaps (open_string shut_string)
open Plain Go.BigFrame
set_option linter.unusedVariables false

theorem own : ownKnob Tryz.prog.godebug = none := by kernel_rfl
theorem laidOut : laidOutB Tryz.prog = true := by kernel_rfl
theorem cellsI : Tryz.prog.cellsOf 3 = 1 := by kernel_rfl
theorem cellsU8 : Tryz.prog.cellsOf 5 = 1 := by kernel_rfl
theorem cellsB : Tryz.prog.cellsOf 4 = 1 := by kernel_rfl
theorem cellsC : Tryz.prog.cellsOf 89 = 3 := by kernel_rfl

set_option maxRecDepth 100000 in
set_option maxHeartbeats 8000000 in
theorem walk (w : World) (hT : Tab w) (m0 s0 : Int) (sv0 mv0 dv0 : Value) (st0 mk0 : List Int) (nd0 : Nat) (D0 : Nat → Nat) (a1 : Int) (a2 : Value) (l2 : List C3) (w0 : Nl w sv0 st0) (x0 : Nl w mv0 mk0) (y0 : Bl w dv0 nd0 D0) (w1 : (Lit.int .i64 a1).wf = true) (w2 : CoIn w a2 l2) :
    Calls Tryz.prog 5 #[xV m0 s0 sv0 mv0 dv0, .int .i64 a1, a2] w fun e w' => e = .returned (.bool true) ∧ Kp w w' := by
  have ba := bounds_i64 w1
  clear w1
  have hmin := @imin Tryz.prog
  have hmm := @run_makeMap Tryz.prog
  obtain ⟨da, dp, dm, hdv⟩ : ∃ a k n, dv0 = .slice a n k := by obtain ⟨a, g, o, cap, h, _⟩ := y0; exact ⟨a, cap, _, h⟩
  obtain ⟨ma, mp, mm_, hmv⟩ := x0.shape'
  obtain ⟨sa, sp_, sm_, hsv⟩ := w0.shape'
  have hl := fun w' (k : Kp w w') => labels_any m0 s0 sv0 mv0 dv0 st0 mk0 w' (w0.kept k) (x0.kept k) ⟨_, _, _, hdv⟩
  have hn := suN_bd m0
  have hs := suS_bd s0
  obtain ⟨N, eN⟩ : ∃ N : Nat, suN m0 = N := ⟨(suN m0).toNat, by omega⟩
  obtain ⟨S, eS⟩ : ∃ S : Nat, suS s0 = S := ⟨(suS s0).toNat, by omega⟩
  rw [eN] at hn
  rw [eS] at hs
  have hN4 : 4 ≤ N := by omega
  have hN8 : N ≤ 8 := by omega
  have hS1 : 1 ≤ S := by omega
  have hS6 : S ≤ 6 := by omega
  rw [eN, eS] at hl
  have HLe : Hid ((suL m0 s0 st0 mk0).n = (N : Int) ∧ (suL m0 s0 st0 mk0).s = (S : Int) ∧ (suL m0 s0 st0 mk0).ep = 1) := ⟨eN, eS, rfl⟩
  have HLg : Hid (lg (suL m0 s0 st0 mk0) = true) := su_good _ _ _ _
  obtain ⟨L, eL⟩ : ∃ L, L = suL m0 s0 st0 mk0 := ⟨_, rfl⟩
  rw [← eL] at hl HLe HLg
  subst hdv hmv hsv
  obtain ⟨pa, pg, po, pc, rfl, p1, p2, p3, p4⟩ := w2
  obtain ⟨ln, hln⟩ : ∃ n, n = l2.length := ⟨_, rfl⟩
  rw [← hln] at p1 p3 p4 ⊢
  have HPa : Hid (0 < ln → pa = some ⟨pg, po, none⟩) := p3
  have HPr : Hid (∀ i, i < ln → w.cell? ⟨pg, po + i * 3, none⟩ = some (.int .i64 (l2.getD i noC3).1) ∧ w.cell? ⟨pg, po + i * 3 + 1, none⟩ = some (.int .u8 ((l2.getD i noC3).2.1 : Nat)) ∧ w.cell? ⟨pg, po + i * 3 + 2, none⟩ = some (.bool (l2.getD i noC3).2.2) ∧ iOk (l2.getD i noC3).1 ∧ (l2.getD i noC3).2.1 < 256) := p4
  have p2' : pc ≤ 9223372036854775807 := by unfold maxLen at p2; omega
  clear eL eN eS hn hs y0 x0 w0 p2 p3 p4 hln
  unfold lV at hl
  go_enter Tryz.func5, Tryz.ntmps5
  go_wp2_with fail
  refine (hl _ ((Kp.refl w).alloc _)).mono ?_; rintro e u1 ⟨v1, v2, v3, v4, rfl, ⟨n1, n2, n3, n4⟩, k1⟩
  obtain ⟨a1_, c1_, m1_, rfl⟩ := n1.shape'
  obtain ⟨a2_, c2_, m2_, rfl⟩ := n2.shape'
  obtain ⟨a3_, c3_, m3_, rfl⟩ := n3.shape'
  obtain ⟨a4_, c4_, m4_, rfl⟩ := n4.shape'
  have K1 : Hid (Kp w u1) := ((Kp.refl w).alloc _).trans k1
  have N1 := hid n1
  have N2 := hid n2
  have N3 := hid n3
  have N4 := hid n4
  clear hl k1 n1 n2 n3 n4
  obtain ⟨W, hW⟩ : ∃ W, W = (u1.alloc (.cells #[.int .i64 (N : Int), .int .i64 (S : Int), .int .i64 1, .slice a1_ m1_ c1_, .slice a2_ m2_ c2_] 30)).alloc (.cells #[.int .i64 (N : Int), .int .i64 (S : Int), .int .i64 1, .slice a3_ m3_ c3_, .slice a4_ m4_ c4_] 33) := ⟨_, rfl⟩
  have KW : Hid (Kp w W) := by show Kp w W; rw [hW]; exact (K1.out.alloc _).alloc _
  have KW1 : Kp u1 W := by rw [hW]; exact ((Kp.refl u1).alloc _).alloc _
  have LcW : Hid (Lc W u1.heap.size N S 1 (.slice a1_ m1_ c1_) (.slice a2_ m2_ c2_)) := by
    show Lc W _ _ _ _ _ _
    rw [hW]; exact (Lc.new u1 N S 1 _ _ _).kept ((Kp.refl _).alloc _)
  have LdW : Hid (Lc W (u1.heap.size + 1) N S 1 (.slice a3_ m3_ c3_) (.slice a4_ m4_ c4_)) := by
    show Lc W _ _ _ _ _ _
    have := Lc.new (u1.alloc (.cells #[.int .i64 (N : Int), .int .i64 (S : Int), .int .i64 1, .slice a1_ m1_ c1_, .slice a2_ m2_ c2_] 30)) N S 1 (.slice a3_ m3_ c3_) (.slice a4_ m4_ c4_) 33
    rw [← hW, show (u1.alloc (.cells #[.int .i64 (N : Int), .int .i64 (S : Int), .int .i64 1, .slice a1_ m1_ c1_, .slice a2_ m2_ c2_] 30)).heap.size = u1.heap.size + 1 by simp] at this
    exact this
  have NW : Hid (Nl W (.slice a1_ m1_ c1_) L.sts ∧ Nl W (.slice a2_ m2_ c2_) L.mks) := ⟨N1.out.kept KW1, N2.out.kept KW1⟩
  have NX : Hid (Nl W (.slice a3_ m3_ c3_) L.sts ∧ Nl W (.slice a4_ m4_ c4_) L.mks) := ⟨N3.out.kept KW1, N4.out.kept KW1⟩
  have HTW : Hid (Tab W) := hT.kp KW.out
  have HPW : Hid (∀ V, Kp W V → ∀ i, i < ln → V.cell? ⟨pg, po + i * 3, none⟩ = some (.int .i64 (l2.getD i noC3).1) ∧ V.cell? ⟨pg, po + i * 3 + 1, none⟩ = some (.int .u8 ((l2.getD i noC3).2.1 : Nat)) ∧ V.cell? ⟨pg, po + i * 3 + 2, none⟩ = some (.bool (l2.getD i noC3).2.2)) := fun V q i hi => ⟨(KW.out.trans q).held (HPr.out i hi).1, (KW.out.trans q).held (HPr.out i hi).2.1, (KW.out.trans q).held (HPr.out i hi).2.2.1⟩
  have HW := hid hW
  have hM0 := MpS.made W
  have KM : Kp W (W.alloc (.map #[] 0)) := (Kp.refl W).alloc _
  obtain ⟨U, hU⟩ : ∃ U, U = W.alloc (.map #[] 0) := ⟨_, rfl⟩
  obtain ⟨M, hM⟩ : ∃ M, M = W.heap.size := ⟨_, rfl⟩
  rw [← hU, ← hM] at hM0
  rw [← hU] at KM
  have HM0 := hid hM0
  have HKM := hid KM
  have HU : Hid (U = W.alloc (.map #[] 0) ∧ M = W.heap.size) := ⟨hU, hM⟩
  obtain ⟨kk, ekk⟩ : ∃ k, k = min ln 20 := ⟨_, rfl⟩
  have hkk : min (ln : Int) 20 = (kk : Int) := by omega
  have hk1 : kk ≤ ln := by omega
  have hk20 : kk ≤ 20 := by omega
  have HMW : Hid (W.heap.size ≤ M) := by show W.heap.size ≤ M; omega
  clear hW KW1 K1 N1 N2 N3 N4 hM0 KM hU hM ekk
  go_upto_region 2 with fail
  rw [← HW.out]
  clear HW
  go_upto_region 4 with fail
  rw [← HU.out.1, ← HU.out.2]
  go_cut [35, 36, 37] (fun p q i wx => ∃ a', p = .slice a' kk pc ∧ q = .int .i64 (kk : Int) ∧ i = .int .i64 ((0 : Nat) : Int) ∧ (0 < kk → a' = some ⟨pg, po, none⟩) ∧ U = wx)
  case first =>
    by_cases h0 : 0 < ln
    · obtain rfl := HPa.out h0
      go_wp2_with fail
      go_meet
      exact ⟨_, rfl, rfl, rfl, fun _ => rfl, rfl⟩
    · have hn0 : ln = 0 := by omega
      subst hn0
      obtain rfl : kk = 0 := by omega
      cases pa with
      | none =>
        go_wp2_with fail
        go_meet
        exact ⟨_, rfl, rfl, rfl, fun h => absurd h (by omega), rfl⟩
      | some ad =>
        go_wp2_with fail
        go_meet
        exact ⟨_, rfl, rfl, rfl, fun h => absurd h (by omega), rfl⟩
  case rest =>
  obtain ⟨a', rfl, rfl, rfl, ha', rfl⟩ := hcut
  go_wp2_with fail
  go_loopw [37] (fun i wr => ∃ (k c : Nat) (F : Int → Option ByteArray) (D : DataW Unit), k ≤ kk ∧ i = .int .i64 k ∧ c ≤ k ∧ Hid (MpS wr M k c F D) ∧ Hid (Kp W wr)) (fun i _ => kk - (intOf i).toNat)
  case atStart => exact ⟨0, 0, _, _, by omega, by go_num, by omega, HM0, HKM⟩
  case round =>
    clear HM0 HKM
    obtain ⟨k, c, F, D, hk, rfl, hck, HM, HK⟩ := hrel
    by_cases hlt : k < kk
    · obtain rfl := ha' (by omega)
      obtain ⟨c0, c1, c2⟩ := HPW.out wr HK.out k (by omega)
      obtain ⟨_, _, _, hok, hb8⟩ := HPr.out k (by omega)
      obtain ⟨z, ez⟩ : ∃ z, z = (l2.getD k noC3).1 := ⟨_, rfl⟩
      obtain ⟨q, eq⟩ : ∃ z, z = (l2.getD k noC3).2.1 := ⟨_, rfl⟩
      obtain ⟨o, eo⟩ : ∃ z, z = (l2.getD k noC3).2.2 := ⟨_, rfl⟩
      rw [← ez] at c0 hok
      rw [← eq] at c1 hb8
      rw [← eo] at c2
      obtain ⟨V, hV⟩ : ∃ V, V = wr.alloc (.cells #[.int .i64 z, .int .u8 (q : Int), .bool o] 89) := ⟨_, rfl⟩
      obtain ⟨H, hH⟩ : ∃ H, H = wr.heap.size := ⟨_, rfl⟩
      have e0 : V.cell? ⟨H, 0, none⟩ = some (.int .i64 z) := by rw [hV, hH, World.cell?_alloc_at _ _ _ _ rfl]; rfl
      have e1 : V.cell? ⟨H, 1, none⟩ = some (.int .u8 (q : Int)) := by rw [hV, hH, World.cell?_alloc_at _ _ _ _ rfl]; rfl
      have e2 : V.cell? ⟨H, 2, none⟩ = some (.bool o) := by rw [hV, hH, World.cell?_alloc_at _ _ _ _ rfl]; rfl
      have kV : Hid (Kp wr V) := by show Kp wr V; rw [hV]; exact (Kp.refl wr).alloc _
      have HV : Hid (V = wr.alloc (.cells #[.int .i64 z, .int .u8 (q : Int), .bool o] 89) ∧ H = wr.heap.size) := ⟨hV, hH⟩
      obtain ⟨sx, esx⟩ : ∃ s, s = scS q o := ⟨_, rfl⟩
      have hs64 : sx.size ≤ 64 := by rw [esx]; exact scS_le q o
      have cSc := fun X (k : Kp V X) => (sector_any q hb8 o X).mono fun e X' (h : e = .returned (.string (scS q o)) ∧ Kp X X') => (⟨h.1, k.trans h.2⟩ : e = .returned (.string (scS q o)) ∧ Kp V X')
      rw [← esx] at cSc
      have hS : ∀ X, Kp V X → X.cell? ⟨H, 0, none⟩ = some (.int .i64 z) ∧ X.cell? ⟨H, 1, none⟩ = some (.int .u8 (q : Int)) ∧ X.cell? ⟨H, 2, none⟩ = some (.bool o) := fun X k => ⟨k.held e0, k.held e1, k.held e2⟩
      have hr0 : Kp V V.drew := (Kp.refl V).drew
      have cP := fun X (k : Kp V X) => (HM.out.kp (kV.out.trans k)).put hok (by omega) sx hs64
      have HHM : Hid (H ≠ M) := fun e => by have := HM.out.lt; omega
      clear ez eq eo hV hH esx hb8
      go_upto_region 7 with fail
      rw [← HV.out.1, ← HV.out.2]
      clear HV c0 c1 c2
      go_region_held3 (fun X => X.cell? ⟨H, 0, none⟩ = some (.int .i64 z) ∧ X.cell? ⟨H, 1, none⟩ = some (.int .u8 (q : Int)) ∧ X.cell? ⟨H, 2, none⟩ = some (.bool o)) (first | exact hS _ (by assumption) | exact hS2 _ (by assumption)) (first
        | (go_at_call 18; refine (cSc _ (by assumption)).mono ?_; rintro e va ⟨rfl, ka⟩; obtain ⟨w5, D5, hup, hM5, hg5⟩ := cP _ ka; have hS2 : ∀ X, va.grownBy X (some M) → X.cell? ⟨H, 0, none⟩ = some (.int .i64 z) ∧ X.cell? ⟨H, 1, none⟩ = some (.int .u8 (q : Int)) ∧ X.cell? ⟨H, 2, none⟩ = some (.bool o) := fun X gX => ⟨(Sp.grown gX).held (hS _ ka).1 (by simpa using HHM.out), (Sp.grown gX).held (hS _ ka).2.1 (by simpa using HHM.out), (Sp.grown gX).held (hS _ ka).2.2 (by simpa using HHM.out)⟩))
      have HK5 : Hid (Kp W w5) := ((HK.out.trans kV.out).trans ka).grown hg5 (fun x hx => by obtain rfl : M = x := by simpa using hx
                                                                                             exact HMW.out)
      obtain ⟨c5, hc5⟩ : ∃ x, x = (if (F z).isSome = true then c else c + 1) := ⟨_, rfl⟩
      rw [← hc5] at hM5
      have hc5k : c5 ≤ k + 1 := by rw [hc5]; split <;> omega
      have HM5 := hid hM5
      clear hM5 hup hg5 ka cP cSc hS hS2 hc5 e0 e1 e2 hr0
      go_wp2
      go_roundw
      case rel => first | exact ⟨k + 1, c5, _, D5, by omega, by go_num, hc5k, HM5, HK5⟩ | (repeat apply Exists.intro) <;> exact ⟨⟨k + 1, c5, _, D5, by omega, by go_num, hc5k, HM5, HK5⟩, rfl⟩
      case measure => simp [intOf]; omega
    · rename World => U1
      have hc20 : c ≤ 20 := by omega
      obtain ⟨eLn, eLs, eLe⟩ := HLe.out
      clear hck
      go_wp2_with fail
      go_loopw [10, 13] (fun v i wx => ∃ j : Nat, j ≤ 43 ∧ i = .int .i64 ((j : Int) - 3) ∧ Hid (wx.ownsRow U1.heap.size 92 2 v (clK F j).length (cvc (clK F j))) ∧ Hid (Kp U1 wx)) (fun _ i _ => 43 - (intOf i + 3).toNat)
      case atStart => exact ⟨0, by omega, rfl, World.ownsRow_nil _ _ _ _, Kp.refl U1⟩
      case round =>
        obtain ⟨j, hj, rfl, HO, HKr⟩ := hrel
        by_cases hj43 : j < 43
        · as_aux_lemma =>
          obtain ⟨i0, hi, hz0, hz1, hz2⟩ := info_parts info_cc
          have hj40 : (j : Int) - 3 < 40 := by omega
          have hw1 : IntKind.i64.wrap ((j : Int) - 3 + 1) = ((j + 1 : Nat) : Int) - 3 := by rw [IntKind.wrap_i64]; omega
          have hask := (HM.out.kp HKr.out).ask (i := (j : Int) - 3) ⟨by omega, by omega⟩
          cases hF : F ((j : Int) - 3) with
          | none =>
            rw [hF] at hask
            have hc1 : clK F (j + 1) = clK F j := by simp only [clK, clO, hF, List.append_nil]
            have HO4 : Hid (wr.ownsRow U1.heap.size 92 2 u10 (clK F (j + 1)).length (cvc (clK F (j + 1)))) := by show World.ownsRow _ _ _ _ _ _ _; rw [hc1]; exact HO.out
            clear hF hc1
            go_wp2
            go_roundw
            case rel => exact ⟨j + 1, by omega, by go_num, HO4, HKr⟩
            case measure => simp [intOf]; omega
          | some s =>
            rw [hF] at hask
            have hc1 : clK F (j + 1) = clK F j ++ [((j : Int) - 3, s)] := by simp only [clK, clO, hF]
            have HC1 := hid hc1
            have hcl := clK_len F j
            have hOw := HO.out
            have hz3 := HKr.out.size
            clear hF hc1
            go_wp2_with (at_builtin; refine wpList_append_own _ rfl _ _ 87 rfl U1.heap.size 92 i0 (.agg #[.int .i64 0, .string ByteArray.empty]) 2 24 Tryz.underlying87 hi hz0 hz1 hz2 rfl (by decide) _ _ _ rfl (hOw.alloc _) ⟨wr.heap.size, 0, none⟩ 1 1 [.int .i64 ((j : Int) - 3), .string s] rfl rfl ?c1 ?c2 ?c3 ?c4 ?c5 ?_)
            case c1 =>
              intro x u hx
              match x, hx with
              | 0, hx => simp at hx; subst hx; simp [Addr.add]
              | 1, hx => simp at hx; subst hx; simp [Addr.add]
            case c2 => intro u hu; simp at hu; rcases hu with rfl | rfl <;> rfl
            case c3 => unfold maxLen; omega
            case c4 => omega
            case c5 => simp; omega
            intro v4 w4 ho4 hg4 _
            have HK4 : Hid (Kp U1 w4) := (HKr.out.alloc _).grown hg4 (own_lt hOw)
            have HO4 : Hid (w4.ownsRow U1.heap.size 92 2 v4 (clK F (j + 1)).length (cvc (clK F (j + 1)))) := by
              show World.ownsRow _ _ _ _ _ _ _
              rw [HC1.out, cvc_app, List.length_append]
              exact ho4
            clear ho4 hg4 hOw hask
            go_wp2
            go_roundw
            case rel => exact ⟨j + 1, by omega, by go_num, HO4, HK4⟩
            case measure => simp [intOf]; omega
        · obtain rfl : j = 43 := by omega
          have HCi := hid (Ci.owned HO.out)
          obtain ⟨CL, hCL⟩ : ∃ l, l = clK F 43 := ⟨_, rfl⟩
          rw [← hCL] at HCi
          have HCL := hid hCL
          have HMr := hid (HM.out.kp HKr.out)
          have HKw : Hid (Kp W wr) := HK.out.trans HKr.out
          obtain ⟨ca, cg, cp, hca, y1, y2, y3, y4⟩ := HCi.out.out
          obtain ⟨cn, hcn⟩ : ∃ n, n = CL.length := ⟨_, rfl⟩
          rw [← hcn] at hca y1
          have Hcn := hid hcn
          subst hca
          have hlen := fun ty => HMr.out.len ty
          clear HO hCL y3 y4 hcn
          rename World => U2
          by_cases heq : cn = c
          · as_aux_lemma =>
            subst heq
            have HAll : Hid (∀ ks, Sk F cn ks → csL F ks = CL) := fun ks h => by rw [HCL.out]; exact cl_all h (by rw [← HCL.out, ← Hcn.out])
            have q7 := mask7 a1
            obtain ⟨a7, ea7⟩ : ∃ x, x = a1 % 8 := ⟨_, rfl⟩
            rw [← ea7] at q7
            obtain ⟨V8, hV8⟩ : ∃ V, V = U2.alloc (.cells #[.int .i64 a1, .int .i64 a7] 3) := ⟨_, rfl⟩
            obtain ⟨Z, hZ⟩ : ∃ Z, Z = U2.heap.size := ⟨_, rfl⟩
            have z0 : V8.cell? ⟨Z, 0, none⟩ = some (.int .i64 a1) := by rw [hV8, hZ, World.cell?_alloc_at _ _ _ _ rfl]; rfl
            have z1 : V8.cell? ⟨Z, 1, none⟩ = some (.int .i64 a7) := by rw [hV8, hZ, World.cell?_alloc_at _ _ _ _ rfl]; rfl
            have Hz : Hid (V8.cell? ⟨Z, 0, none⟩ = some (.int .i64 a1) ∧ V8.cell? ⟨Z, 1, none⟩ = some (.int .i64 a7)) := ⟨z0, z1⟩
            have Hk8 : Hid (Kp U2 V8) := by show Kp U2 V8; rw [hV8]; exact (Kp.refl U2).alloc _
            have HV8 : Hid (V8 = U2.alloc (.cells #[.int .i64 a1, .int .i64 a7] 3) ∧ Z = U2.heap.size) := ⟨hV8, hZ⟩
            have cWr := fun t V (k : Kp U2 V) => writes_any L (.slice a1_ m1_ c1_) (.slice a2_ m2_ c2_) t (NW.out.1.kept (HKw.out.trans k)) (NW.out.2.kept (HKw.out.trans k)) (HMr.out.kp k) (by omega)
            have cRr := fun t V (k : Kp U2 V) => rwrites_any L (.slice a3_ m3_ c3_) (.slice a4_ m4_ c4_) t (.slice ca cn cp) CL (NX.out.1.kept (HKw.out.trans k)) (NX.out.2.kept (HKw.out.trans k)) (HCi.out.kept k) (by rw [← Hcn.out]; omega)
            rw [eLn, eLs, eLe] at cWr cRr
            unfold lV at cWr cRr
            have HcWr := hid cWr
            have HcRr := hid cRr
            clear cWr cRr z0 z1 hV8 hZ ea7 eLn eLs eLe HKr HMr HM
            go_wp2_with fail
            rw [← HV8.out.1, ← HV8.out.2]
            clear HV8
            go_loopw [92] (fun i wx => ∃ j : Nat, j ≤ 2 ∧ i = .int .i64 j ∧ Hid (Kp V8 wx)) (fun i _ => 2 - (intOf i).toNat)
            case atStart => exact ⟨0, by omega, by go_num, Kp.refl V8⟩
            case round =>
              obtain ⟨j, hj, rfl, HKj⟩ := hrel
              by_cases hj2 : j < 2
              · obtain ⟨t, zt⟩ : ∃ t : Int, wr.cell? ⟨Z, j, none⟩ = some (.int .i64 t) := by
                  have hcs : j = 0 ∨ j = 1 := by omega
                  rcases hcs with rfl | rfl
                  · exact ⟨a1, HKj.out.held Hz.out.1⟩
                  · exact ⟨a7, HKj.out.held Hz.out.2⟩
                have hWr := HcWr.out t wr (Hk8.out.trans HKj.out)
                obtain ⟨l0, l1, l2_, l3, l4⟩ := LcW.out.kept ((HKw.out.trans Hk8.out).trans HKj.out)
                go_wp2_with fail
                refine hWr.mono ?_; rintro e w3 ⟨v3, ks, rfl, hWi, hSk, k3⟩
                rw [HAll.out ks hSk] at hWi ⊢
                obtain ⟨E, eE⟩ : ∃ E, E = wtE L t CL := ⟨_, rfl⟩
                obtain ⟨l, hl⟩ : ∃ l, l = wtL L t CL := ⟨_, rfl⟩
                rw [← hl] at hWi
                have HK3 : Hid (Kp V8 w3) := HKj.out.trans k3
                have hRr := HcRr.out t w3 (Hk8.out.trans HK3.out)
                rw [← eE, ← hl] at hRr
                rw [← eE]
                obtain ⟨xa, xg, xc, hx, x1, x2, x3, x4⟩ := hWi.out
                obtain ⟨nn, hnn⟩ : ∃ n, n = l.length := ⟨_, rfl⟩
                rw [← hnn] at hx x1 x3 x4
                subst hx
                have HX := hid x4
                have HXa := hid x3
                have Hnn := hid hnn
                clear hWr l0 l1 l2_ l3 l4 zt hWi hSk k3 eE hl x3 x4 hnn
                obtain ⟨l0, l1, l2_, l3, l4⟩ := LdW.out.kept ((HKw.out.trans Hk8.out).trans HK3.out)
                go_wp2_with fail
                refine hRr.mono ?_; rintro e w4 ⟨v4, rfl, hWi2, k4⟩
                obtain ⟨ya, yg, yc, hy, yy1, yy2, y3, y4⟩ := hWi2.out
                rw [← Hnn.out] at hy yy1 y3 y4
                subst hy
                have HY := hid y4
                have HYa := hid y3
                have Hk4 := hid k4
                have HK4 : Hid (Kp V8 w4) := HK3.out.trans k4
                clear hRr l0 l1 l2_ l3 l4 hWi2 k4 y3 y4
                go_wp2_with fail
                go_loopw [122] (fun i wx => ∃ k : Nat, k ≤ nn ∧ i = .int .i64 k ∧ Hid (Kp w4 wx)) (fun i _ => nn - (intOf i).toNat)
                case atStart => exact ⟨0, by omega, by go_num, Kp.refl w4⟩
                case round =>
                  obtain ⟨k, hk, rfl, HKk⟩ := hrel
                  by_cases hkn : k < nn
                  · obtain rfl := HXa.out (by omega)
                    obtain rfl := HYa.out (by omega)
                    obtain ⟨d0, d1, d2⟩ := HX.out k hkn
                    obtain ⟨f0, f1, f2⟩ := HY.out k hkn
                    replace d0 := (Hk4.out.trans HKk.out).held d0
                    replace d1 := (Hk4.out.trans HKk.out).held d1
                    replace d2 := (Hk4.out.trans HKk.out).held d2
                    replace f0 := HKk.out.held f0
                    replace f1 := HKk.out.held f1
                    replace f2 := HKk.out.held f2
                    obtain ⟨px, hpx⟩ : ∃ x, x = (l.getD k noC).1 := ⟨_, rfl⟩
                    obtain ⟨ps, hps⟩ : ∃ x, x = (l.getD k noC).2 := ⟨_, rfl⟩
                    rw [← hpx] at d0 f0
                    rw [← hps] at d2 f2
                    have g0 := kpw_cell d0
                    have g1 := kpw_cell d1
                    have g2 := kpw_cell d2
                    have g3 := kpw_cell f0
                    have g4 := kpw_cell f1
                    have g5 := kpw_cell f2
                    clear hpx hps
                    go_upto_region 28 with fail
                    refine wp_region_kp (by kernel_rfl) (by kernel_rfl) ?_
                    repeat (first
                      | go_big_quiet_skip
                      | (go_big_quiet_want; go_big_quiet_op; go_big_quiet_on))
                    refine wpQuiet_nil ?_
                    rintro w8 ⟨p, hp8⟩
                    have HK8 : Hid (Kp w4 w8) := by show Kp w4 w8; rw [hp8]; exact HKk.out.trans (kpw_kp _ p)
                    clear hp8 g0 g1 g2 g3 g4 g5 d0 d1 d2 f0 f1 f2
                    go_wp2
                    go_roundw
                    case rel => exact ⟨k + 1, by omega, by go_num, HK8⟩
                    case measure => simp [intOf]; omega
                  · have HKe : Hid (Kp V8 wr) := HK4.out.trans HKk.out
                    go_wp2
                    go_roundw
                    case rel =>
                      repeat apply Exists.intro
                      exact ⟨⟨j + 1, by omega, by go_num, HKe⟩, rfl⟩
                    case measure => simp [intOf]; omega
              · have hwk := wakes16 wr (HTW.out.kp ((HKw.out.trans Hk8.out).trans HKj.out))
                have HKz : Hid (Kp w wr) := KW.out.trans ((HKw.out.trans Hk8.out).trans HKj.out)
                go_wp2_with fail
                refine hwk.mono ?_; rintro e w8 ⟨rfl, k8⟩
                have HK8 := hid (HKz.out.trans k8)
                clear hwk k8
                go_wp2
                go_ret
                exact ⟨rfl, HK8.out⟩
          · as_aux_lemma =>
            have hneq : ¬ (cn : Int) = (c : Int) := by omega
            have hWr := writes_any L (.slice a1_ m1_ c1_) (.slice a2_ m2_ c2_) 0 (NW.out.1.kept HKw.out) (NW.out.2.kept HKw.out) HMr.out (by omega)
            rw [eLn, eLs, eLe] at hWr
            unfold lV at hWr
            obtain ⟨l0, l1, l2_, l3, l4⟩ := LcW.out.kept HKw.out
            have HLn := hid eLn
            clear eLn eLs eLe
            go_wp2_with fail
            refine hWr.mono ?_; rintro e w7 ⟨v7, ks, rfl, _, hSk, k7⟩
            have hE := cl_far (N := L.n) (by rw [HLn.out]; omega) hSk (by rw [← HCL.out, ← Hcn.out]; exact heq)
            rw [← wt_2 (L := L) (t := 0) (l := csL F ks) (ls_nought HLg.out)] at hE
            obtain ⟨E, eE⟩ : ∃ E, E = wtE L 0 (csL F ks) := ⟨_, rfl⟩
            rw [← eE] at hE ⊢
            have hwk := wakes16 w7 (HTW.out.kp (HKw.out.trans k7))
            have HK7 := hid (KW.out.trans (HKw.out.trans k7))
            clear hWr l0 l1 l2_ l3 l4 hSk eE k7
            go_wp2_with fail
            refine hwk.mono ?_; rintro e w8 ⟨rfl, k8⟩
            have HK8 := hid (HK7.out.trans k8)
            clear hwk k8
            rcases hE with rfl | rfl
            · go_wp2
              go_ret
              exact ⟨rfl, HK8.out⟩
            · go_wp2
              go_ret
              exact ⟨rfl, HK8.out⟩

set_option maxRecDepth 100000 in
theorem lifted (os : Os) (started : os.Started) (H : Type) (enc : TypeId × Value → H) :
    ReturnsInHanded {} Tryz.checked os 5 .any (fun w args => (Rows.rowWritesSpec.pre enc Tryz.prog Tryz.f5 [] false w args ∧ laidMetH Tryz.prog lz w) ∧ sizedMet enc Tryz.prog Tryz.f5 (OpenSpec.ofChange Rows.rowWritesSpec) false w args)
      (Rows.rowWritesSpec.post enc Tryz.prog Tryz.f5 false true false false) := by
  refine returnsInHanded_of_change_and (C := Tryz.checked) (X := fun w _ => laidMetH Tryz.prog lz w) (fun _ _ _ hh h => h.of_heap hh) own started (by kernel_rfl) Tryz.func5
    (ChangeSpec.witness_shaped (enc := enc) (C := Tryz.checked) (os := os) (X := fun w _ => laidMetH Tryz.prog lz w) false (World.doorLaid Tryz.prog 400 os) #[.agg #[.int .i64 0, .int .i64 0, .slice none 0 0, .slice none 0 0, .slice none 0 0], .int .i64 0, .slice none 0 0] 8 rfl (World.shaped_of_RefB (by kernel_rfl) (by kernel_rfl)) (by kernel_rfl) (by kernel_rfl) (by kernel_rfl) (door_met os _)) ?_
  intro W base args ds gs before hval0 hW hcnd _ hL _
  have hval : ∀ (j : Nat) t v, Tryz.f5.params[j]? = some t → args[j]? = some v → Value.okWide Tryz.prog W .any base t v := hval0
  have hW' := hW
  have hlt := hW.lt
  obtain ⟨p, q, hA0, hV, rfl, hfz, hnd⟩ := hW
  have hA : DataW.TrodAll enc Tryz.prog W 0 (fun _ => true) true Tryz.f5.params.toList args.toList ds p := hA0
  have hAk := hA
  rw [Tryz.params5] at hA hval
  obtain ⟨v0, vs0, d0, ds0, p0, q0, hargs, rfl, rfl, h0, r0⟩ := trodAll_cons hA
  obtain ⟨v1, vs1, d1, ds1, p1, q1, rfl, rfl, rfl, h1, r1⟩ := trodAll_cons r0
  obtain ⟨v2, vs2, d2, ds2, p2, q2, rfl, rfl, rfl, h2, r2⟩ := trodAll_cons r1
  obtain ⟨rfl, rfl, rfl⟩ := trodAll_nil r2
  obtain rfl : args = #[v0, v1, v2] := by cases args; simp_all
  obtain ⟨rfl, rfl⟩ := trodVars_none hV
  obtain ⟨m0, s0, sv0, mv0, dv0, st0, mk0, nd0, D0, rfl, w0, x0, y0⟩ := open_setup (hval 0 25 v0 rfl rfl) h0
  obtain ⟨a1, rfl, rfl, rfl, w1⟩ := open_int Tryz.underlying3 (hval 1 3 v1 rfl rfl) h1
  obtain ⟨l2, w2⟩ := open_cols Tryz.underlying85 Tryz.underlying89 cellsC rfl rfl rfl cellsI cellsU8 cellsB Tryz.underlying3 Tryz.underlying5 Tryz.underlying4 (hval 2 85 v2 rfl rfl) h2
  clear hA0 hval0
  simp only [List.append_nil] at hW' hAk hlt
  have hwk := walk W (of_laid hL) m0 s0 sv0 mv0 dv0 st0 mk0 nd0 D0 a1 v2 l2 w0 x0 y0 w1 w2
  refine hwk.mono fun e W' ⟨he, hg⟩ => ?_
  subst he
  exact ⟨_, rfl, post_kp (pv := []) hW' (fun _ _ _ => (trodAll_cons_mk (shut_bool Tryz.underlying4 _) trodAll_mk0)) (fun sp hsp => trodAll_stays laidOut (by rw [Tryz.params5]; exact of_decide_eq_true (by kernel_rfl)) hAk (fun x hx => Below.same hg (hlt x hx)) hsp) (fun _ _ => rfl) (by simp) hg⟩

theorem over : Rows.rowWritesRow.holds Tryz.pinned (OpenSpec.ofChange Rows.rowWritesSpec) :=
  OpenClaim.holds_of_wide 5 Tryz.f5 rfl rfl rfl rfl rfl rfl rfl ⟨rfl, rfl, rfl, rfl, rfl⟩ rfl rfl rfl rfl rfl (by kernel_rfl) Tryz.func5 (by kernel_rfl)
    (of_decide_eq_true (by kernel_rfl)) (by unfold Func.isWrapper; first | (rw [if_pos (by decide +kernel)]; kernel_rfl) | (rw [if_neg (by decide +kernel)]; exact ⟨rfl, rfl⟩))
    (fun os started H enc _ => lifted os started H enc)

theorem card : Claim7.holds Tryz.pinned (.plain (OpenSpec.ofChange Rows.rowWritesSpec)) Rows.rowWritesCard :=
  Claim7.holds_tied_plain_at .later [] [.data] true Rows.rowWritesCard.stood.harness false
    over (fun _ h => by cases h) (by kernel_rfl) (fun _ h => by cases h) rowWrites_row_tie rfl ⟨rfl, rfl⟩ (by kernel_rfl) rfl
    (fun f fn hf hfn => by
      have e : some f = some 5 := hf.symm.trans (by kernel_rfl)
      obtain rfl := Option.some.inj e
      obtain rfl : fn = Tryz.f5 := (Option.some.inj (Tryz.func5.symm.trans hfn)).symm
      exact ⟨by kernel_rfl, fun j t ht => by
        rw [Tryz.params5] at ht
        have hm : t ∈ [25, 3, 85] := by simpa using Array.mem_of_getElem? ht
        have hall : ([25, 3, 85].all fun u => !Tryz.prog.wantsStandIn u) = true := by kernel_rfl
        exact (show Tryz.prog.wantsStandIn t = false by simpa using List.all_eq_true.1 hall t hm)⟩)
    (by kernel_rfl)

end Go.Proofs.YtonooelffokfkaaGreatDoor.rowWrites
namespace Go.Proofs.YtonooelffokfkaaGreatDoor
theorem rowWrites_holds : Rows.RowWritesCardSaid := rowWrites.card
end Go.Proofs.YtonooelffokfkaaGreatDoor
