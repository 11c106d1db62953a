/-
  RowLost: for every input the law answers true, and its arguments read as before. The condition: the library's table reads as it is laid.
-/
import Derived.Test.YtonooelffokfkaaGreatDoorRows
import Derived.Test.YtonooelffokfkaaGreatDoorCards
import Derived.Test.YtonooelffokfkaaGreatDoorTie
import Derived.Test.YtonooelffokfkaaGreatDoorZSet
import Derived.Test.YtonooelffokfkaaGreatDoorZRwRefL
import Derived.WalkKit
import Derived.ProofKit
import Derived.OpenShut
import Derived.ShutString
import Derived.LaidMore
import Derived.SevenTiedAt
import Derived.Stop.Joined
namespace Go.Proofs.YtonooelffokfkaaGreatDoor.rowLost
open Go.ChangeShapes Go.WideShapes Go.ChangeAt Go.RowKit
open Go.ChangeMaps (open_string shut_string)
open Plain Go.BigFrame
set_option linter.unusedVariables false

theorem own : ownKnob Tryz.prog.godebug = none := by kernel_rfl
theorem laidOut : laidOutB Tryz.prog = true := by kernel_rfl
theorem cellsI : Tryz.prog.cellsOf 3 = 1 := by kernel_rfl

set_option maxRecDepth 100000 in
set_option maxHeartbeats 8000000 in
theorem walk (w : World) (hT : Tab w) (m0 s0 : Int) (sv0 mv0 dv0 : Value) (st0 mk0 : List Int) (nd0 : Nat) (D0 : Nat → Nat) (a1 : Value) (l1 : List Int) (a2 : Int) (w0 : Nl w sv0 st0) (x0 : Nl w mv0 mk0) (y0 : Bl w dv0 nd0 D0) (w1 : IntsIn w a1 l1) (w2 : (Lit.int .i64 a2).wf = true) :
    Calls Tryz.prog 3 #[xV m0 s0 sv0 mv0 dv0, a1, .int .i64 a2] w fun e w' => e = .returned (.bool true) ∧ Kp w w' := by
  have hmin := @imin Tryz.prog
  have hm7 := mask7 a2
  obtain ⟨da, dp, dm, hdv⟩ : ∃ a k n, dv0 = .slice a n k := by obtain ⟨a, g, o, cap, h, _⟩ := y0; exact ⟨a, cap, _, h⟩
  obtain ⟨ma, mp, mm_, hmv⟩ := x0.shape'
  obtain ⟨sa, sp_, sm_, hsv⟩ := w0.shape'
  have hl := fun w' (k : Kp w w') => labels_any m0 s0 sv0 mv0 dv0 st0 mk0 w' (w0.kept k) (x0.kept k) ⟨_, _, _, hdv⟩
  have HLe : Hid ((suL m0 s0 st0 mk0).n = suN m0 ∧ (suL m0 s0 st0 mk0).s = suS s0 ∧ (suL m0 s0 st0 mk0).ep = 1) := ⟨rfl, rfl, rfl⟩
  obtain ⟨L, eL⟩ : ∃ L, L = suL m0 s0 st0 mk0 := ⟨_, rfl⟩
  rw [← eL] at hl HLe
  obtain ⟨N, eN⟩ : ∃ N, N = suN m0 := ⟨_, rfl⟩
  obtain ⟨S, eS⟩ : ∃ S, S = suS s0 := ⟨_, rfl⟩
  rw [← eN, ← eS] at hl HLe
  subst hdv hmv hsv
  clear eL eN eS y0 x0 w0
  unfold lV at hl
  obtain ⟨ia, ig, io, ip, hia, li1, li2, li3, hIw⟩ := ints_parts w1
  subst hia
  obtain ⟨n1, en1⟩ : ∃ n, n = l1.length := ⟨_, rfl⟩
  obtain ⟨kk, ekk⟩ : ∃ k, k = min n1 40 := ⟨_, rfl⟩
  have hkk : min (n1 : Int) 40 = (kk : Int) := by omega
  have hk1 : kk ≤ n1 := by omega
  have HTk : Hid (∀ a', (0 < kk → a' = some ⟨ig, io, none⟩) → IntsIn w (.slice a' kk ip) (l1.take kk)) := fun a' ha => ints_take (by rw [← en1]; exact hk1) li1 li2 ha hIw
  rw [← en1] at li1 li3
  have li2' : ip ≤ 9223372036854775807 := by unfold maxLen at li2; omega
  have HI10 : Hid (0 < n1 → ia = some ⟨ig, io, none⟩) := li3
  rw [← en1]
  clear li3 en1 hIw w1 ekk
  go_enter Tryz.func3, Tryz.ntmps3
  go_wp2_with fail
  refine (hl _ ((Kp.refl w).alloc _)).mono ?_; rintro e u1 ⟨v1, v2, v3, v4, rfl, ⟨n1_, n2_, n3_, n4_⟩, k1⟩
  obtain ⟨a1_, c1_, m1_, rfl⟩ := n1_.shape'
  obtain ⟨a2_, c2_, m2_, rfl⟩ := n2_.shape'
  obtain ⟨a3_, c3_, m3_, rfl⟩ := n3_.shape'
  obtain ⟨a4_, c4_, m4_, rfl⟩ := n4_.shape'
  have K1 : Hid (Kp w u1) := ((Kp.refl w).alloc _).trans k1
  have N1 := hid n1_
  have N2 := hid n2_
  have N3 := hid n3_
  have N4 := hid n4_
  clear hl k1 n1_ n2_ n3_ n4_
  go_upto_region 2 with fail
  obtain ⟨W, hW⟩ : ∃ W, W = (u1.alloc (.cells #[.int .i64 N, .int .i64 S, .int .i64 1, .slice a1_ m1_ c1_, .slice a2_ m2_ c2_] 30)).alloc (.cells #[.int .i64 N, .int .i64 S, .int .i64 1, .slice a3_ m3_ c3_, .slice a4_ m4_ c4_] 33) := ⟨_, rfl⟩
  have KW : Hid (Kp w W) := by show Kp w W; rw [hW]; exact (K1.out.alloc _).alloc _
  have KW1 : Kp u1 W := by rw [hW]; exact ((Kp.refl u1).alloc _).alloc _
  have LcA : Hid (∀ V, Kp W V → Lc V u1.heap.size N S 1 (.slice a1_ m1_ c1_) (.slice a2_ m2_ c2_)) := fun V q => by
    have : Lc W u1.heap.size N S 1 (.slice a1_ m1_ c1_) (.slice a2_ m2_ c2_) := by rw [hW]; exact (Lc.new u1 N S 1 _ _ _).kept ((Kp.refl _).alloc _)
    exact this.kept q
  have LcB : Hid (∀ V, Kp W V → Lc V (u1.heap.size + 1) N S 1 (.slice a3_ m3_ c3_) (.slice a4_ m4_ c4_)) := fun V q => by
    have h9 := Lc.new (u1.alloc (.cells #[.int .i64 N, .int .i64 S, .int .i64 1, .slice a1_ m1_ c1_, .slice a2_ m2_ c2_] 30)) N S 1 (.slice a3_ m3_ c3_) (.slice a4_ m4_ c4_) 33
    rw [← hW, asz] at h9
    exact h9.kept q
  have NA : Hid (∀ V, Kp W V → (Nl V (.slice a1_ m1_ c1_) L.sts ∧ Nl V (.slice a2_ m2_ c2_) L.mks) ∧ Nl V (.slice a3_ m3_ c3_) L.sts ∧ Nl V (.slice a4_ m4_ c4_) L.mks) := fun V q => ⟨⟨N1.out.kept (KW1.trans q), N2.out.kept (KW1.trans q)⟩, N3.out.kept (KW1.trans q), N4.out.kept (KW1.trans q)⟩
  rw [← hW]
  clear hW KW1 K1 N1 N2 N3 N4
  go_cut [1] (fun p wx => ∃ a', p = .slice a' kk ip ∧ (0 < kk → a' = some ⟨ig, io, none⟩) ∧ W = wx)
  case first =>
    by_cases h0 : 0 < n1
    · obtain rfl := HI10.out h0
      go_wp2_with fail
      go_meet
      exact ⟨_, rfl, fun _ => rfl, rfl⟩
    · have hn0 : n1 = 0 := by omega
      subst hn0
      obtain rfl : kk = 0 := by omega
      cases ia with
      | none =>
        go_wp2_with fail
        go_meet
        exact ⟨_, rfl, fun h => absurd h (by omega), rfl⟩
      | some ad =>
        go_wp2_with fail
        go_meet
        exact ⟨_, rfl, fun h => absurd h (by omega), rfl⟩
  case rest =>
  obtain ⟨a', rfl, ha', rfl⟩ := hcut
  have HD : Hid (∀ V, Kp W V → IntsIn V (.slice a' kk ip) (l1.take kk)) := fun V q => (HTk.out a' ha').kept (KW.out.trans q)
  obtain ⟨D, eD⟩ : ∃ D, D = l1.take kk := ⟨_, rfl⟩
  rw [← eD] at HD
  obtain ⟨eLn, eLs, eLe⟩ := HLe.out
  have hA := fun V (q : Kp W V) t => lost_any L (.slice a1_ m1_ c1_) (.slice a2_ m2_ c2_) D (.slice a' kk ip) t V (NA.out V q).1.1 (NA.out V q).1.2 (HD.out V q)
  have hB := fun V (q : Kp W V) t => rlost16 L (.slice a3_ m3_ c3_) (.slice a4_ m4_ c4_) D (.slice a' kk ip) t V (NA.out V q).2.1 (NA.out V q).2.2 (HD.out V q)
  have hZ := fun V (q : Kp W V) => lost_any ⟨0, 0, 0, [], []⟩ (.slice none 0 0) (.slice none 0 0) D (.slice a' kk ip) a2 V (Nl.nil V) (Nl.nil V) (HD.out V q)
  rw [eLn, eLs, eLe] at hA hB
  unfold lV at hA hB hZ
  rw [(ls_no (L := ⟨0, 0, 0, [], []⟩) a2 (by decide)).1] at hZ
  clear HTk HI10 eD NA ha'
  go_wp2_with fail
  obtain ⟨U, hU⟩ : ∃ U, U = W.alloc (.cells #[.int .i64 a2, .int .i64 (a2 % 8)] 3) := ⟨_, rfl⟩
  have KU : Hid (Kp W U) := by show Kp W U; rw [hU]; exact (Kp.refl W).alloc _
  have HcU : Hid (∀ V, Kp U V → ∀ k, k < 2 → ∃ t, V.cell? ⟨W.heap.size, k, none⟩ = some (.int .i64 t)) := fun V q k hk => by
    have hk2 : k = 0 ∨ k = 1 := by omega
    rcases hk2 with rfl | rfl
    · exact ⟨a2, q.held (by rw [hU]; simp)⟩
    · exact ⟨a2 % 8, q.held (by rw [hU]; simp)⟩
  rw [← hU]
  clear hU
  go_loopw [32] (fun i wr => ∃ k : Nat, k ≤ 2 ∧ i = .int .i64 k ∧ Hid (Kp U wr)) (fun i _ => 2 - (intOf i).toNat)
  case atStart => exact ⟨0, by omega, by go_num, Kp.refl U⟩
  case round =>
    obtain ⟨k, hk, rfl, HK⟩ := hrel
    by_cases hlt : k < 2
    · obtain ⟨t, ct⟩ := HcU.out wr HK.out k hlt
      have KWr : Hid (Kp W wr) := KU.out.trans HK.out
      obtain ⟨q0, q1, q2, q3, q4⟩ := LcA.out wr KWr.out
      obtain ⟨E, eE⟩ : ∃ E, E = lsE L t := ⟨_, rfl⟩
      have hAt := hA wr KWr.out t
      have hBt := fun V (q : Kp W V) => hB V q t
      rw [← eE] at hAt hBt
      have hk2 : (k : Int) < 2 := by omega
      clear eE
      go_wp2_with fail
      refine hAt.mono ?_; rintro e w5 ⟨v5, rfl, i5, k5⟩
      have K5 : Hid (Kp W w5) := KWr.out.trans k5
      obtain ⟨q0, q1, q2, q3, q4⟩ := LcB.out w5 K5.out
      clear hAt
      go_wp2_with fail
      refine (hBt _ K5.out).mono ?_; rintro e w6 ⟨v6, rfl, i6, k6⟩
      have K6 : Hid (Kp U w6) := HK.out.trans (k5.trans k6)
      have hal := alike_same v5 v6 _ w6 (i5.kept k6).ints i6.ints
      clear hBt k5 k6 i5 i6
      go_wp2_with fail
      refine hal.mono ?_; rintro e w7 ⟨rfl, k7⟩
      have K7 : Hid (Kp U w7) := K6.out.trans k7
      clear hal k7
      go_wp2
      go_roundw
      case rel => exact ⟨k + 1, by omega, by go_num, K7⟩
      case measure => simp [intOf]; omega
    · obtain rfl : k = 2 := by omega
      have KWr : Hid (Kp W wr) := KU.out.trans HK.out
      have hZr := hZ wr KWr.out
      go_wp2_with fail
      refine hZr.mono ?_; rintro e w5 ⟨v5, rfl, i5, k5⟩
      have K5 : Hid (Kp W w5) := KWr.out.trans k5
      have hwk := wakes16 w5 (hT.kp (KW.out.trans K5.out))
      clear hZr
      go_wp2_with fail
      refine hwk.mono ?_; rintro e w6 ⟨rfl, k6⟩
      go_wp2
      go_ret
      exact ⟨rfl, KW.out.trans (K5.out.trans k6)⟩

set_option maxRecDepth 100000 in
theorem lifted (os : Os) (started : os.Started) (H : Type) (enc : TypeId × Value → H) :
    ReturnsInHanded {} Tryz.checked os 3 .any (fun w args => (Rows.rowLostSpec.pre enc Tryz.prog Tryz.f3 [] false w args ∧ laidMetH Tryz.prog lz w) ∧ sizedMet enc Tryz.prog Tryz.f3 (OpenSpec.ofChange Rows.rowLostSpec) false w args)
      (Rows.rowLostSpec.post enc Tryz.prog Tryz.f3 false true false false) := by
  refine returnsInHanded_of_change_and (C := Tryz.checked) (X := fun w _ => laidMetH Tryz.prog lz w) (fun _ _ _ hh h => h.of_heap hh) own started (by kernel_rfl) Tryz.func3
    (ChangeSpec.witness_shaped (enc := enc) (C := Tryz.checked) (os := os) (X := fun w _ => laidMetH Tryz.prog lz w) false (World.doorLaid Tryz.prog 400 os) #[.agg #[.int .i64 0, .int .i64 0, .slice none 0 0, .slice none 0 0, .slice none 0 0], .slice none 0 0, .int .i64 0] 8 rfl (World.shaped_of_RefB (by kernel_rfl) (by kernel_rfl)) (by kernel_rfl) (by kernel_rfl) (by kernel_rfl) (door_met os _)) ?_
  intro W base args ds gs before hval0 hW hcnd _ hL _
  have hval : ∀ (j : Nat) t v, Tryz.f3.params[j]? = some t → args[j]? = some v → Value.okWide Tryz.prog W .any base t v := hval0
  have hW' := hW
  have hlt := hW.lt
  obtain ⟨p, q, hA0, hV, rfl, hfz, hnd⟩ := hW
  have hA : DataW.TrodAll enc Tryz.prog W 0 (fun _ => true) true Tryz.f3.params.toList args.toList ds p := hA0
  have hAk := hA
  rw [Tryz.params3] at hA hval
  obtain ⟨v0, vs0, d0, ds0, p0, q0, hargs, rfl, rfl, h0, r0⟩ := trodAll_cons hA
  obtain ⟨v1, vs1, d1, ds1, p1, q1, rfl, rfl, rfl, h1, r1⟩ := trodAll_cons r0
  obtain ⟨v2, vs2, d2, ds2, p2, q2, rfl, rfl, rfl, h2, r2⟩ := trodAll_cons r1
  obtain ⟨rfl, rfl, rfl⟩ := trodAll_nil r2
  obtain rfl : args = #[v0, v1, v2] := by cases args; simp_all
  obtain ⟨rfl, rfl⟩ := trodVars_none hV
  obtain ⟨m0, s0, sv0, mv0, dv0, st0, mk0, nd0, D0, rfl, w0, x0, y0⟩ := open_setup (hval 0 25 v0 rfl rfl) h0
  obtain ⟨l1, w1⟩ := open_intsL Tryz.underlying22 Tryz.underlying3 cellsI (hval 1 22 v1 rfl rfl) h1
  obtain ⟨a2, rfl, rfl, rfl, w2⟩ := open_int Tryz.underlying3 (hval 2 3 v2 rfl rfl) h2
  clear hA0 hval0
  simp only [List.append_nil] at hW' hAk hlt
  have hwk := walk W (of_laid hL) m0 s0 sv0 mv0 dv0 st0 mk0 nd0 D0 v1 l1 a2 w0 x0 y0 w1 w2
  refine hwk.mono fun e W' ⟨he, hg⟩ => ?_
  subst he
  exact ⟨_, rfl, post_kp (pv := []) hW' (fun _ _ _ => (trodAll_cons_mk (shut_bool Tryz.underlying4 _) trodAll_mk0)) (fun sp hsp => trodAll_stays laidOut (by rw [Tryz.params3]; exact of_decide_eq_true (by kernel_rfl)) hAk (fun x hx => Below.same hg (hlt x hx)) hsp) (fun _ _ => rfl) (by simp) hg⟩

theorem over : Rows.rowLostRow.holds Tryz.pinned (OpenSpec.ofChange Rows.rowLostSpec) :=
  OpenClaim.holds_of_wide 3 Tryz.f3 rfl rfl rfl rfl rfl rfl rfl ⟨rfl, rfl, rfl, rfl, rfl⟩ rfl rfl rfl rfl rfl (by kernel_rfl) Tryz.func3 (by kernel_rfl)
    (of_decide_eq_true (by kernel_rfl)) (by unfold Func.isWrapper; first | (rw [if_pos (by decide +kernel)]; kernel_rfl) | (rw [if_neg (by decide +kernel)]; exact ⟨rfl, rfl⟩))
    (fun os started H enc _ => lifted os started H enc)

theorem card : Claim7.holds Tryz.pinned (.plain (OpenSpec.ofChange Rows.rowLostSpec)) Rows.rowLostCard :=
  Claim7.holds_tied_plain_at .later [] [.data] true Rows.rowLostCard.stood.harness false
    over (fun _ h => by cases h) (by kernel_rfl) (fun _ h => by cases h) rowLost_row_tie rfl ⟨rfl, rfl⟩ (by kernel_rfl) rfl
    (fun f fn hf hfn => by
      have e : some f = some 3 := hf.symm.trans (by kernel_rfl)
      obtain rfl := Option.some.inj e
      obtain rfl : fn = Tryz.f3 := (Option.some.inj (Tryz.func3.symm.trans hfn)).symm
      exact ⟨by kernel_rfl, fun j t ht => by
        rw [Tryz.params3] at ht
        have hm : t ∈ [25, 22, 3] := by simpa using Array.mem_of_getElem? ht
        have hall : ([25, 22, 3].all fun u => !Tryz.prog.wantsStandIn u) = true := by kernel_rfl
        exact (show Tryz.prog.wantsStandIn t = false by simpa using List.all_eq_true.1 hall t hm)⟩)
    (by kernel_rfl)

end Go.Proofs.YtonooelffokfkaaGreatDoor.rowLost
namespace Go.Proofs.YtonooelffokfkaaGreatDoor
theorem rowLost_holds : Rows.RowLostCardSaid := rowLost.card
end Go.Proofs.YtonooelffokfkaaGreatDoor
