/-
  RowTwo: for every input the law answers true, and its arguments read as before. The condition: the library's table reads as it is laid.
-/
import Derived.Test.YtonooelffokfkaaGreatDoorRows
import Derived.Test.YtonooelffokfkaaGreatDoorCards
import Derived.Test.YtonooelffokfkaaGreatDoorTie
import Derived.Test.YtonooelffokfkaaGreatDoorZSet
import Derived.Test.YtonooelffokfkaaGreatDoorZRwTwo
import Derived.WalkKit
import Derived.ProofKit
import Derived.OpenShut
import Derived.ShutString
import Derived.LaidMore
import Derived.SevenTiedAt
import Derived.Stop.Joined
namespace Go.Proofs.YtonooelffokfkaaGreatDoor.rowTwo
open Go.ChangeShapes Go.WideShapes Go.ChangeAt Go.RowKit
open Go.ChangeMaps (open_string shut_string)
open Plain Go.BigFrame
set_option linter.unusedVariables false

theorem own : ownKnob Tryz.prog.godebug = none := by kernel_rfl
theorem laidOut : laidOutB Tryz.prog = true := by kernel_rfl
theorem cellsI : Tryz.prog.cellsOf 3 = 1 := by kernel_rfl
theorem cellsK : Tryz.prog.cellsOf 45 = 3 := by kernel_rfl

set_option maxRecDepth 100000 in
set_option maxHeartbeats 8000000 in
theorem walk (w : World) (hT : Tab w) (m0 s0 : Int) (sv0 mv0 dv0 : Value) (st0 mk0 : List Int) (nd0 : Nat) (D0 : Nat → Nat) (a1 b1 c1 : Int) (w0 : Nl w sv0 st0) (x0 : Nl w mv0 mk0) (y0 : Bl w dv0 nd0 D0) (w1 : (Lit.int .i64 a1).wf = true) (x1 : (Lit.int .i64 b1).wf = true) (y1 : (Lit.int .i64 c1).wf = true) :
    Calls Tryz.prog 6 #[xV m0 s0 sv0 mv0 dv0, .agg #[.int .i64 a1, .int .i64 b1, .int .i64 c1]] w fun e w' => e = .returned (.bool true) ∧ Kp w w' := by
  have ba := bounds_i64 w1
  have bb := bounds_i64 x1
  have bc := bounds_i64 y1
  clear w1 x1 y1
  have hmax := @imax Tryz.prog
  have hmin := @imin Tryz.prog
  obtain ⟨da, dp, dm, hdv⟩ : ∃ a k n, dv0 = .slice a n k := by obtain ⟨a, g, o, cap, h, _⟩ := y0; exact ⟨a, cap, _, h⟩
  obtain ⟨ma, mp, mm_, hmv⟩ := x0.shape'
  obtain ⟨sa, sp_, sm_, hsv⟩ := w0.shape'
  have hl := fun w' (k : Kp w w') => labels_any m0 s0 (.slice none 0 0) mv0 dv0 [] mk0 w' (Nl.nil w') (x0.kept k) ⟨_, _, _, hdv⟩
  have hn := suN_bd m0
  have hs := suS_bd s0
  obtain ⟨N, eN⟩ : ∃ N : Nat, suN m0 = N := ⟨(suN m0).toNat, by omega⟩
  obtain ⟨S, eS⟩ : ∃ S : Nat, suS s0 = S := ⟨(suS s0).toNat, by omega⟩
  rw [eN] at hn
  rw [eS] at hs
  have hN4 : 4 ≤ N := by omega
  have hN8 : N ≤ 8 := by omega
  have hS1 : 1 ≤ S := by omega
  have hS6 : S ≤ 6 := by omega
  rw [eN, eS] at hl
  have hb := fun v3 v4 w' (k : Kp w w') => bays_any m0 s0 (.slice none 0 0) mv0 dv0 nd0 D0 N S hN4 hN8 hS1 hS6 v3 v4 w' ⟨_, _, _, rfl⟩ ⟨_, _, _, hmv⟩ (y0.kept k)
  have hAr : Arr N S (atB nd0 D0) (suL m0 s0 [] mk0) (baB N (atB nd0 D0) S) (fun _ => false) := Arr.start hN4 hN8 hS6 eN eS (su_good _ _ _ _) (by
    have := su_whole m0 s0 mk0
    rw [eN, eS] at this
    simpa using this)
  have HA := hid hAr
  have HLe : Hid ((suL m0 s0 [] mk0).n = (N : Int) ∧ (suL m0 s0 [] mk0).s = (S : Int) ∧ (suL m0 s0 [] mk0).ep = 1) := ⟨eN, eS, rfl⟩
  obtain ⟨L, eL⟩ : ∃ L, L = suL m0 s0 [] mk0 := ⟨_, rfl⟩
  obtain ⟨at_, eat⟩ : ∃ f, f = atB nd0 D0 := ⟨_, rfl⟩
  rw [← eL] at hl HLe
  rw [← eL, ← eat] at HA
  rw [← eat] at hb
  obtain ⟨B0, eB0⟩ : ∃ B, B = baB N at_ S := ⟨_, rfl⟩
  rw [← eB0] at hb HA
  subst hdv hmv hsv
  clear hAr eL eat eB0 eN eS hn hs y0 x0 w0
  unfold lV at hl hb
  go_enter Tryz.func6, Tryz.ntmps6
  go_wp2_with fail
  refine (hl _ (((Kp.refl w).alloc _).alloc _)).mono ?_; rintro e u1 ⟨v1, v2, v3, v4, rfl, ⟨n1, n2, n3, n4⟩, k1⟩
  obtain ⟨a1_, c1_, m1_, rfl⟩ := n1.shape'
  obtain ⟨a2_, c2_, m2_, rfl⟩ := n2.shape'
  obtain ⟨a3_, c3_, m3_, rfl⟩ := n3.shape'
  obtain ⟨a4_, c4_, m4_, rfl⟩ := n4.shape'
  have xx : ∀ j v, [Value.int .i64 m0, .int .i64 s0, .slice none 0 0, .slice ma mm_ mp, .slice da dm dp][j]? = some v → u1.cell? ⟨w.heap.size, j, none⟩ = some v := fun j v hv => k1.held (((Kp.refl _).alloc _).held (by
    rw [World.cell?_alloc_at _ _ _ _ rfl]
    simpa using hv))
  have y0 := xx 0 _ rfl
  have y1 := xx 1 _ rfl
  have y2 := xx 2 _ rfl
  have y3 := xx 3 _ rfl
  have y4 := xx 4 _ rfl
  have K1 : Hid (Kp w u1) := (((Kp.refl w).alloc _).alloc _).trans k1
  have hs1 : w.heap.size < u1.heap.size := World.block_lt_of_cell? _ _ y0
  have N1 := hid n1
  have N2 := hid n2
  have hwho : u1.cell? ⟨w.heap.size + 1, 0, none⟩ = some (.int .i64 a1) ∧ u1.cell? ⟨w.heap.size + 1, 1, none⟩ = some (.int .i64 b1) ∧ u1.cell? ⟨w.heap.size + 1, 2, none⟩ = some (.int .i64 c1) := by
    refine ⟨k1.held ?_, k1.held ?_, k1.held ?_⟩ <;> (rw [World.cell?_alloc_at _ _ _ _ (by simp)]; rfl)
  clear hl k1 xx n1 n2 n3 n4
  go_wp2_with fail
  obtain ⟨W, hW⟩ : ∃ W, W = (u1.alloc (.cells #[.int .i64 (N : Int), .int .i64 (S : Int), .int .i64 1, .slice a1_ m1_ c1_, .slice a2_ m2_ c2_] 30)).alloc (.cells #[.int .i64 (N : Int), .int .i64 (S : Int), .int .i64 1, .slice a3_ m3_ c3_, .slice a4_ m4_ c4_] 33) := ⟨_, rfl⟩
  have KW : Hid (Kp w W) := by show Kp w W; rw [hW]; exact (K1.out.alloc _).alloc _
  have KW1 : Kp u1 W := by rw [hW]; exact ((Kp.refl u1).alloc _).alloc _
  have LcW : Hid (Lc W u1.heap.size N S 1 (.slice a1_ m1_ c1_) (.slice a2_ m2_ c2_)) := by
    show Lc W _ _ _ _ _ _
    rw [hW]; exact (Lc.new u1 N S 1 _ _ _).kept ((Kp.refl _).alloc _)
  have NW : Hid (Nl W (.slice a1_ m1_ c1_) L.sts ∧ Nl W (.slice a2_ m2_ c2_) L.mks) := ⟨N1.out.kept KW1, N2.out.kept KW1⟩
  have HTW : Hid (Tab W) := hT.kp KW.out
  have HWho : Hid (∀ V, Kp W V → V.cell? ⟨w.heap.size + 1, 0, none⟩ = some (.int .i64 a1) ∧ V.cell? ⟨w.heap.size + 1, 1, none⟩ = some (.int .i64 b1) ∧ V.cell? ⟨w.heap.size + 1, 2, none⟩ = some (.int .i64 c1)) := fun V q => ⟨(KW1.trans q).held hwho.1, (KW1.trans q).held hwho.2.1, (KW1.trans q).held hwho.2.2⟩
  clear hwho
  rw [← hW]
  clear hW KW1 K1 N1 N2 y0 y1 y2 y3 y4 hs1
  refine (hb _ _ _ KW.out).mono ?_; rintro e u2 ⟨b, y, T0, rfl, ⟨T, R, rfl, oB, oD, dj⟩, k2⟩
  have K2 := hid k2
  have HoB := hid oB
  have hwk := wakes16 u2 (HTW.out.kp k2)
  clear hb oD dj oB k2
  go_wp2_with fail
  refine hwk.mono ?_; rintro e u3 ⟨rfl, k3⟩
  have K3 : Hid (Kp W u3) := K2.out.trans k3
  have HoB3 : Hid (Bw W u3 b T B0) := OL.bw.sp HoB.out (k3.sp []) (fun _ _ h => by cases h)
  have hsz := bw_size HoB3.out
  rw [HA.out.len] at hsz
  clear hwk k3 HoB K2
  go_wp2_with fail
  refine hsz.mono ?_; rintro e u4 ⟨rfl, rfl⟩
  have hN40 : ¬ (N : Int) < 4 := by omega
  have hmm := @run_makeMap Tryz.prog
  have hNew := rnew_any' HoB3.out K3.out
  go_wp2_with fail
  refine hNew.mono ?_; rintro e u8 ⟨r, f, g, rfl, x8, k8⟩
  have K8 : Hid (Kp W u8) := K3.out.trans k8
  have HX8 := hid x8
  obtain ⟨q0, q1, q2, q3, q4⟩ := LcW.out.kept K8.out
  clear hNew k8 x8 HoB3
  have KWs := K8.out.size
  go_wp2_with fail
  go_loopw [10, 51] (fun v i wr => ∃ (k : Nat) (T' : List Nat) (B' : BS) (cnt : Nat → Int), k ≤ S ∧ i = .int .i64 k ∧ Hid (RdX W wr r b f g T' B' cnt) ∧ Hid (Arr N S at_ L B' (fun _ => false)) ∧ Hid (∀ j, j < 8 → 0 ≤ cnt j ∧ cnt j ≤ k) ∧ Hid (Al wr (r :: f :: g :: T') W.heap.size v at_ N k) ∧ Hid (Kp W wr)) (fun _ i _ => S - (intOf i).toNat)
  case atStart => exact ⟨0, T, B0, fun _ => 0, by omega, by go_num, HX8, HA, fun j hj => ⟨show (0 : Int) ≤ 0 by omega, show (0 : Int) ≤ ((0 : Nat) : Int) by omega⟩, Al.start (World.ownsRow_nil _ _ _ _) rfl, K8⟩
  case round =>
    obtain ⟨k, T', B', cnt, hk, rfl, HX, HAr, HQ, HAl, HKr⟩ := hrel
    clear q0 q1 q2 q3 q4
    by_cases hlt : k < S
    · obtain ⟨q0, q1, q2, q3, q4⟩ := LcW.out.kept HKr.out
      have hLd := lddN_any HX.out HKr.out HTW.out (fun j hj => ⟨(HQ.out j hj).1, by have := (HQ.out j hj).2; omega⟩) L (.slice a1_ m1_ c1_) (.slice a2_ m2_ c2_) (k : Int) (fun w' q => ⟨NW.out.1.kept (Sp.kp HKr.out q HX.out.new), NW.out.2.kept (Sp.kp HKr.out q HX.out.new)⟩)
      obtain ⟨eLn, eLs, eLe⟩ := HLe.out
      rw [eLn, eLs, eLe] at hLd
      unfold lV at hLd
      obtain ⟨z1, z2, z3, z4, z5⟩ := HAr.out.load hlt (by rw [show goN N k (fun _ => false) = [] by unfold goN; simp]; exact Nat.zero_le _)
      rw [z1, z2, z4, z5, (ld_yes z1).2.2.2.1] at hLd
      have hkd := kdN_lt (N - 2) (goN N k (fun _ => false))
      obtain ⟨kd, ekd⟩ : ∃ kd, kd = kdN (N - 2) (goN N k (fun _ => false)) := ⟨_, rfl⟩
      rw [← ekd] at hLd hkd
      clear z1 z2 z3 z4 z5 ekd
      go_wp2_with fail
      refine hLd.mono ?_; rintro e u9 ⟨cv, gv, B9, rfl, s9, i9, sm9, z9⟩
      have HA9 : Hid (Arr N S at_ L B9 (fun _ => false)) := HAr.out.same sm9
      obtain ⟨T9, x9, p9, nw9, o9⟩ := z9
      have HX9 := hid x9
      have HK9 : Hid (Kp W u9) := Sp.kp HKr.out p9 HX.out.new
      have hrl := HX.out.hr
      have hll := HX.out.low
      have HVl : Hid (∀ q, u10.ownBlock = some q → q < wr.heap.size) := fun q hq => (HAl.out.lt q hq).2.1
      have HO9 : Hid (∀ q, cv.ownBlock = some q → wr.heap.size ≤ q ∧ q ∉ r :: f :: g :: T9) := fun q hq => ⟨(o9 q hq).1, fun hm => by
        have := (o9 q hq).1
        rcases List.mem_cons.1 hm with rfl | hm
        · omega
        rcases List.mem_cons.1 hm with rfl | hm
        · have := hll q (by simp); omega
        rcases List.mem_cons.1 hm with rfl | hm
        · have := hll q (by simp); omega
        exact (o9 q hq).2 hm⟩
      have hAl9 : Al u9 (r :: f :: g :: T9) W.heap.size _ at_ N k := HAl.out.sp (p9.mono (fun x hx => List.mem_cons_of_mem _ hx)) (fun q h1 h2 => nw_out (nw_c (nw_fg nw9)) h1 h2)
      have HAl9 := hid hAl9
      have HS9 : Hid (StrsIn u9 cv (clL at_ N k)) := s9
      have HQ9 : Hid (∀ j, j < 8 → 0 ≤ upL5 cnt kd j ∧ upL5 cnt kd j ≤ ((k + 1 : Nat) : Int)) := fun j hj => by
        have := HQ.out j hj
        by_cases e : j = kd
        · subst e; rw [upL5_same]; omega
        · rw [upL5_ne cnt e]; omega
      obtain ⟨ca, ck, cm, hcv⟩ : ∃ a k m, cv = .slice a m k := by obtain ⟨a, k, e, _⟩ := s9.slice; exact ⟨a, k, _, e⟩
      obtain ⟨ga, gk, gm, hgv⟩ : ∃ a k m, gv = .slice a m k := by obtain ⟨a, k, e⟩ := i9.slice; exact ⟨a, k, _, e⟩
      subst hcv hgv
      clear hLd s9 i9 sm9 x9 p9 nw9 o9 q0 q1 q2 q3 q4 HX HAr HAl HQ HKr hAl9 hrl hll
      have hWh := fun w' (q : Kp u9 w') => whole_any (HX9.out.kp q) (HK9.out.trans q) HTW.out L (.slice a1_ m1_ c1_) (.slice a2_ m2_ c2_) (k : Int) (fun w'' q' => ⟨NW.out.1.kept (Sp.kp (HK9.out.trans q) q' (HX9.out.kp q).new), NW.out.2.kept (Sp.kp (HK9.out.trans q) q' (HX9.out.kp q).new)⟩)
      rw [HA9.out.fit hlt, eLn, eLs, eLe] at hWh
      unfold lV at hWh
      have kR := (Kp.refl u9).alloc (.cells #[.int .i64 (k : Int), .slice ca cm ck, .slice ga gm gk, .int .i64 (kd : Int)] 70)
      have cR : (u9.alloc (.cells #[.int .i64 (k : Int), .slice ca cm ck, .slice ga gm gk, .int .i64 (kd : Int)] 70)).cell? ⟨u9.heap.size, 1, none⟩ = some (.slice ca cm ck) := by rw [World.cell?_alloc_at _ _ _ _ rfl]; rfl
      have sR : (u9.alloc (.cells #[.int .i64 (k : Int), .slice ca cm ck, .slice ga gm gk, .int .i64 (kd : Int)] 70)).heap.size = u9.heap.size + 1 := by simp
      obtain ⟨U, hU⟩ : ∃ U, U = u9.alloc (.cells #[.int .i64 (k : Int), .slice ca cm ck, .slice ga gm gk, .int .i64 (kd : Int)] 70) := ⟨_, rfl⟩
      rw [← hU] at kR cR sR
      have HU := hid hU
      clear hU
      have hWh2 := hWh U kR
      obtain ⟨q0, q1, q2, q3, q4⟩ := LcW.out.kept (HK9.out.trans kR)
      clear hWh
      go_upto_region 12 with fail
      rw [← HU.out]
      clear HU
      go_wp2_with fail
      refine hWh2.mono ?_; rintro e y10 ⟨B10, rfl, sm10, z10⟩
      have HA10 : Hid (Arr N S at_ L B10 (fun _ => false)) := HA9.out.same sm10
      obtain ⟨T10, x10, p10, nw10⟩ := z10
      have hl9 := HX9.out.low
      have c10 : y10.cell? ⟨u9.heap.size, 1, none⟩ = some (.slice ca cm ck) := p10.held cR (fun hm => by have := hl9 _ hm; omega)
      have HX10 := hid x10
      have HK10 : Hid (Kp W y10) := Sp.kp (HK9.out.trans kR) p10 HX9.out.new
      have hAl10 := (HAl9.out.kp kR).sp (p10.mono (fun x hx => List.mem_cons_of_mem _ hx)) (F' := r :: f :: g :: T10) (fun q h1 h2 => nw_out (nw_c (nw_fg nw10)) h1 h2)
      have HS10 : Hid (StrsIn y10 (.slice ca cm ck) (clL at_ N k)) := (HS9.out.kept kR).sp p10 (fun q hq hm => (HO9.out q hq).2 (List.mem_cons_of_mem _ hm))
      have hcl : 0 < (clL at_ N k).length := by rw [cl_len _ _ _ (by omega)]; omega
      have hcu := HS9.out.lt hcl
      have HO10 : Hid (∀ q, Value.ownBlock (.slice ca cm ck) = some q → q ∉ r :: f :: g :: T10 ∧ q < y10.heap.size ∧ u10.ownBlock ≠ some q) := fun q hq => ⟨nw_out (nw_c (nw_fg nw10)) (by have := hcu q hq; omega) (HO9.out q hq).2, by have := hcu q hq; have := p10.size; omega, fun e => by
        have := HVl.out q e
        have := (HO9.out q hq).1
        omega⟩
      have hlt10 := hAl10.lt
      obtain ⟨xs, ho, hxl, hxv, hxs⟩ := hAl10
      obtain ⟨va, vg, vc, hvv, vs1, vs2, _, _⟩ := OR.shape ho
      rw [hxl] at vs1 hvv
      subst hvv
      have hK1 : Kp y10 (y10.alloc (.cells #[.slice ca cm ck] 67)) := (Kp.refl y10).alloc _
      have HO1 := hid ho
      have Hxs := hid hxs
      have Hlt := hid hlt10
      have hs10 : W.heap.size ≤ y10.heap.size := HK10.out.size
      clear hxs hlt10 ho hWh2 x10 p10 nw10 hl9 cR sR q0 q1 q2 q3 q4 HX9 HAl9 HA9 hxv
      go_wp2_with (at_builtin; refine wpList_append_or2 rfl _ _ 103 67 (.slice none 0 0) 24 Tryz.underlying103 info_ss rfl (by omega) rfl W.heap.size _ xs rfl (HO1.out.kp hK1) (.slice ca cm ck) rfl _ rfl (by rw [World.cell?_alloc_at _ _ _ _ rfl]; rfl) (by omega) (by simp; omega) ?_)
      intro v' w3 ho3 hg3 hv3
      have HAl3 : Hid (Al w3 (r :: f :: g :: T10) W.heap.size v' at_ N (k + 1)) := Al.snoc (fun q hq => by
          have := hK1.size
          rcases List.mem_cons.1 hq with rfl | hq
          · have := HX10.out.hr; omega
          · have := HX10.out.low q hq; omega) hxl (fun q hq => ⟨(Hlt.out q hq).2.2, by have := (Hlt.out q hq).2.1; have := hK1.size; omega⟩) (fun i hi => by
          obtain ⟨x, a1, a2, a3⟩ := Hxs.out i hi
          exact ⟨x, a1, a2.kept hK1, fun q hq => ⟨(a3 q hq).1, Nat.lt_of_lt_of_le (a3 q hq).2.1 hK1.size, (a3 q hq).2.2⟩⟩) (HS10.out.kept hK1) (fun q hq => ⟨(HO10.out q hq).1, Nat.lt_of_lt_of_le (HO10.out q hq).2.1 hK1.size, (HO10.out q hq).2.2⟩) ho3 hg3 (hv3.imp id fun e => by rw [e]; simp)
      have HX3 : Hid (RdX W w3 r b f g T10 B10 (upL5 cnt kd)) := (HX10.out.kp hK1).sp (Sp.grown hg3) (fun t ht hm => by
        have e : Value.ownBlock (.slice va k vc) = some t := by
          cases hb : Value.ownBlock (.slice va k vc) with
          | none => rw [hb] at hm; cases hm
          | some z => rw [hb] at hm; simp at hm; rw [hm]
        exact (Hlt.out t e).2.2 ht)
      have HK3 : Hid (Kp W w3) := (HK10.out.alloc _).grown hg3 (fun q hq => (Hlt.out q hq).1)
      clear ho3 hg3 hv3 HX10 HK10 HO10 HS10 HO1 Hxs Hlt hK1
      go_wp2
      go_roundw
      case rel => exact ⟨k + 1, T10, B10, upL5 cnt kd, by omega, by go_num, HX3, HA10, HQ9, HAl3, HK3⟩
      case measure => simp [intOf]; omega
    · have ekS : k = S := by omega
      rw [ekS] at HAl HQ
      clear HX8 HA K8 ekS
      have kM : Kp wr (wr.alloc (.map #[] 0)) := (Kp.refl wr).alloc _
      have HM0 : Hid (MpI (wr.alloc (.map #[] 0)) wr.heap.size 0 0 (fun _ => false)) := MpI.made wr
      have HX1 := hid (HX.out.kp kM)
      have HAl1 : Hid (Al (wr.alloc (.map #[] 0)) (wr.heap.size :: r :: f :: g :: T') W.heap.size u10 at_ N S) := HAl.out.sp (kM.sp _) (fun q h1 h2 hm => (List.mem_cons.1 hm).elim (fun e => by omega) h2)
      have HMn : Hid (wr.heap.size ∉ r :: f :: g :: T') := fun hm => (List.mem_cons.1 hm).elim (fun e => by have := HX.out.hr; omega) (fun h => by have := HX.out.low _ h; omega)
      have HK1 := hid (HKr.out.trans kM)
      have HZ : Hid (∀ t, t < S → (goN N t (fun _ => false)).length = 0) := fun t _ => by rw [show goN N t (fun _ => false) = [] by unfold goN; simp]; rfl
      have HQ1 : Hid (∀ i, i < 8 → 0 ≤ cnt i ∧ cnt i ≤ ((1000 * (0 + 1) : Nat) : Int)) := fun i hi => ⟨(HQ.out i hi).1, by have := (HQ.out i hi).2; omega⟩
      have HMW : Hid (W.heap.size ≤ wr.heap.size) := HKr.out.size
      obtain ⟨M, eM⟩ : ∃ M, M = wr.heap.size := ⟨_, rfl⟩
      rw [← eM] at HM0 HAl1 HMn HMW
      obtain ⟨V0, eV0⟩ : ∃ V, V = wr.alloc (.map #[] 0) := ⟨_, rfl⟩
      rw [← eV0] at HM0 HX1 HAl1 HK1
      have HE : Hid (V0 = wr.alloc (.map #[] 0) ∧ M = wr.heap.size) := ⟨eV0, eM⟩
      clear eV0 eM HX HAl HQ HKr kM
      go_upto_region 17 with fail
      rw [← HE.out.1, ← HE.out.2]
      clear HE
      obtain ⟨p0, p1, p2⟩ := HWho.out V0 HK1.out
      rename World => wo
      have HVa : Hid (∃ va vc, u10 = .slice va S vc) := by
        obtain ⟨xs, h1, h2, _, _⟩ := HAl1.out
        obtain ⟨va, vg, vc, h3, _⟩ := OR.shape h1
        exact ⟨va, vc, by rw [h3, h2]⟩
      go_wp2_with fail
      go_loopw [78] (fun i wr => ∃ (j : Nat) (T' : List Nat) (B' : BS) (cnt : Nat → Int) (dd : Nat → Bool) (n c : Nat), j ≤ 3 ∧ i = .int .i64 j ∧ n ≤ j ∧ c ≤ j ∧ Hid (RdX W wr r b f g T' B' cnt) ∧ Hid (Arr N S at_ L B' dd) ∧ Hid (∀ i, i < 8 → 0 ≤ cnt i ∧ cnt i ≤ ((1000 * (j + 1) : Nat) : Int)) ∧ Hid (Al wr (M :: r :: f :: g :: T') W.heap.size u10 at_ N S) ∧ Hid (MpI wr M n c dd) ∧ Hid (∀ t, t < S → (goN N t dd).length = c) ∧ Hid (M ∉ r :: f :: g :: T') ∧ Hid (Kp W wr)) (fun i _ => 3 - (intOf i).toNat)
      case atStart => exact ⟨0, T', B', cnt, fun _ => false, 0, 0, by omega, by go_num, by omega, by omega, HX1, HAr, HQ1, HAl1, HM0, HZ, HMn, HK1⟩
      case round =>
        clear HX1 HAr HQ1 HAl1 HM0 HZ HMn HK1
        obtain ⟨j, T2, B2, cnt2, dd, n, c, hj, rfl, hn, hc, HX2, HA2, HQ2, HAl2, HM2, HZ2, HMn2, HK2⟩ := hrel
        by_cases hj3 : j < 3
        · have hix : ∃ z : Int, (-9223372036854775808 ≤ z ∧ z ≤ 9223372036854775807) ∧ ∀ w', (Instr.index 45 (.agg #[.int .i64 a1, .int .i64 b1, .int .i64 c1]) (.int .i64 (j : Int))).run Tryz.prog w' = .ok (.int .i64 z) w' := by
            have hcs : j = 0 ∨ j = 1 ∨ j = 2 := by omega
            rcases hcs with rfl | rfl | rfl
            · exact ⟨a1, ba, fun w' => rfl⟩
            · exact ⟨b1, bb, fun w' => rfl⟩
            · exact ⟨c1, bc, fun w' => rfl⟩
          obtain ⟨z, hz, hix⟩ := hix
          have tm : (max 0 z).tmod (N : Int) = (max 0 z) % (N : Int) := Int.tmod_eq_emod_of_nonneg (by omega)
          have hN0 : ((N : Int) == 0) = false := beq_eq_false_iff_ne.2 (by omega)
          have hN00 : ¬ (N : Int) = 0 := by omega
          have tp := Int.emod_nonneg (max 0 z) (show (N : Int) ≠ 0 by omega)
          have tq := Int.emod_lt_of_pos (max 0 z) (show 0 < (N : Int) by omega)
          obtain ⟨m, em⟩ : ∃ m : Nat, (max 0 z) % (N : Int) = m := ⟨((max 0 z) % (N : Int)).toNat, by omega⟩
          have em2 := em
          rw [em] at tm tp tq
          have hm : m < N := by omega
          have hfd : fdE B2 m = 0 := if_pos ⟨by omega, by rw [HA2.out.len]; omega⟩
          obtain ⟨x, hMem, _, hFail⟩ := bw_mem HX2.out.bay HK2.out hfd
          have hsz2 := bw_size HX2.out.bay
          rw [HA2.out.len] at hsz2
          clear tp tq hsz
          go_wp2_with fail
          refine hsz2.mono ?_; rintro e y5 ⟨rfl, rfl⟩
          go_wp2_with fail
          refine hMem.mono ?_; rintro e y6 ⟨rfl, rfl⟩
          go_wp2_with fail
          refine hFail.mono ?_; rintro e y7 ⟨rfl, n7⟩
          have HA7 := hid (HA2.out.fail m hm)
          obtain ⟨B7, eB7⟩ : ∃ B, B = put B2 (m : Int) (fa (bm B2 (m : Int))) := ⟨_, rfl⟩
          rw [← eB7] at n7 HA7
          have hcn : Hid (∀ t, t < S → (goN N t (fun i => if i = m then true else dd i)).length = (if dd m = true then c else c + 1)) := fun t ht => by
            rw [HA2.out.count ht m hm, HZ2.out t ht]
            cases dd m <;> rfl
          have HK7 : Hid (Kp W y7) := n7.below OL.bw HX2.out.bay HK2.out
          obtain ⟨T7, o7, s7, nw7⟩ := n7
          have hX7 := HX2.out.bayX o7 s7 nw7
          have hMn7 : M ∉ r :: f :: g :: T7 := nw_out (nw_c (nw_fg nw7)) HM2.out.lt HMn2.out
          have hAl7 : Al y7 (M :: r :: f :: g :: T7) W.heap.size u10 at_ N S := HAl2.out.sp (s7.mono (fun x hx => by simp [hx])) (fun q h1 h2 => nw_out (nw_c (nw_c (nw_fg nw7))) h1 h2)
          have hM7 := HM2.out.sp s7 (fun h => HMn2.out (by simp [h]))
          obtain ⟨V, hup, hM8, g8⟩ := hM7.put m (by omega) (by omega)
          have s8 : Sp [M] y7 V := Sp.grown g8
          have HX8 := hid (hX7.sp s8 (fun t ht hm => hMn7 (by rw [← List.mem_singleton.1 hm]; exact ht)))
          have HAl8 : Hid (Al V (M :: r :: f :: g :: T7) W.heap.size u10 at_ N S) := hAl7.sp (s8.mono (fun x hx => by rw [List.mem_singleton.1 hx]; exact List.mem_cons_self)) (fun _ _ h => h)
          have HK8 : Hid (Kp W V) := Sp.kp HK7.out s8 (fun t ht => by rw [List.mem_singleton.1 ht]; exact HMW.out)
          have HM8 := hid hM8
          have HMn8 := hid hMn7
          clear hMem hFail hsz2 o7 s7 nw7 hX7 hMn7 hAl7 hM7 hM8 s8 g8 HX2 HA2 HAl2 HM2 HZ2 HMn2 HK2 HK7 eB7 em em2 tm hfd
          obtain ⟨de, ede⟩ : ∃ d : Nat → Bool, d = (fun i => if i = m then true else dd i) := ⟨_, rfl⟩
          obtain ⟨ce, ece⟩ : ∃ d : Nat, d = (if dd m = true then c else c + 1) := ⟨_, rfl⟩
          have hce : ce ≤ j + 1 := by rw [ece]; split <;> omega
          rw [← ede] at HA7 HM8 hcn
          rw [← ece] at HM8 hcn
          have HQ8 : Hid (∀ i, i < 8 → 0 ≤ cnt2 i ∧ cnt2 i ≤ ((1000 * (j + 1) : Nat) : Int)) := HQ2
          clear ede ece HQ2
          by_cases hj0 : j = 0
          · subst hj0
            go_wp2
            go_roundw
            case rel => exact ⟨1, T7, B7, cnt2, de, n + 1, ce, by omega, by go_num, by omega, by omega, HX8, HA7, fun i hi => ⟨(HQ8.out i hi).1, by have := (HQ8.out i hi).2; omega⟩, HAl8, HM8, hcn, HMn8, HK8⟩
            case measure => simp [intOf]
          · have hj00 : ¬ (j : Int) = 0 := by omega
            obtain ⟨va, vc, hva⟩ := HVa.out
            subst hva
            go_wp2_with fail
            rw [show (((j : Nat) : Int) == 0) = false by simpa using hj00]
            go_loopw [97] (fun i wr => ∃ (t : Nat) (T' : List Nat) (B' : BS) (cnt : Nat → Int), t ≤ S ∧ i = .int .i64 t ∧ Hid (RdX W wr r b f g T' B' cnt) ∧ Hid (Arr N S at_ L B' de) ∧ Hid (∀ i, i < 8 → 0 ≤ cnt i ∧ cnt i ≤ ((1000 * (j + 1) + 10 * t : Nat) : Int)) ∧ Hid (Al wr (M :: r :: f :: g :: T') W.heap.size (.slice va S vc) at_ N S) ∧ Hid (MpI wr M (n + 1) ce de) ∧ Hid (M ∉ r :: f :: g :: T') ∧ Hid (Kp W wr)) (fun i _ => S - (intOf i).toNat)
            case atStart => exact ⟨0, T7, B7, cnt2, by omega, by go_num, HX8, HA7, fun i hi => ⟨(HQ8.out i hi).1, by have := (HQ8.out i hi).2; omega⟩, HAl8, HM8, HMn8, HK8⟩
            case round =>
              clear HX8 HA7 HQ8 HAl8 HM8 HMn8 HK8
              obtain ⟨t, T9, B9, cnt9, ht, rfl, HX9, HA9, HQ9, HAl9, HM9, HMn9, HK9⟩ := hrel
              by_cases htS : t < S
              · obtain ⟨xs, xo, xl, _, xsx⟩ := HAl9.out
                obtain ⟨xc, xe, xS, xq⟩ := xsx t htS
                obtain ⟨va', vg, vc', hv', vs1, vs2, vs3, vs4⟩ := OR.shape xo
                rw [xl] at hv' vs1 vs3 vs4
                simp only [Value.slice.injEq] at hv'
                obtain rfl : va = some ⟨vg, 0, none⟩ := hv'.1.trans (vs3 (by omega)).1
                have hvcc : S ≤ vc := by rw [hv'.2.2]; exact vs1
                have hvc2 : vc ≤ 9223372036854775807 := by rw [hv'.2.2]; exact vs2
                have cT := (vs4 t htS).trans xe
                obtain ⟨xa, xk, exc, _⟩ := xS.slice
                obtain ⟨xn, exn⟩ : ∃ n, n = (clL at_ N t).length := ⟨_, rfl⟩
                rw [← exn] at exc
                subst exc
                obtain ⟨q0, q1, q2, q3, q4⟩ := LcW.out.kept HK9.out
                have hLd := lddN_any HX9.out HK9.out HTW.out (fun i hi => ⟨(HQ9.out i hi).1, by have := (HQ9.out i hi).2; omega⟩) L (.slice a1_ m1_ c1_) (.slice a2_ m2_ c2_) (t : Int) (fun w' q => ⟨NW.out.1.kept (Sp.kp HK9.out q HX9.out.new), NW.out.2.kept (Sp.kp HK9.out q HX9.out.new)⟩)
                obtain ⟨eLn, eLs, eLe⟩ := HLe.out
                rw [eLn, eLs, eLe] at hLd
                unfold lV at hLd
                have HxS := hid xS
                have Hxq := hid xq
                have HxN := hid exn
                clear xo xl xsx xe hv' vs1 vs2 vs3 vs4 xS xq exn
                go_wp2_with fail
                refine hLd.mono ?_; rintro e y9 ⟨cv, gv, B8, rfl, s8, i8, sm8, z8⟩
                have hlen := hcn.out t htS
                obtain ⟨E, hE⟩ : ∃ E, E = ldE B9 L t := ⟨_, rfl⟩
                obtain ⟨kT, hkT⟩ : ∃ E, E = ldT B9 L t := ⟨_, rfl⟩
                obtain ⟨kK, hkK⟩ : ∃ E, E = ldK B9 L t := ⟨_, rfl⟩
                obtain ⟨gn, hgn⟩ : ∃ E, E = (ldL B9 L t).length := ⟨_, rfl⟩
                have HLq : Hid ((ce ≤ 2 → E = 0 ∧ ldC B9 L t = clL at_ N t ∧ gn = ce) ∧ (¬ ce ≤ 2 → E = 20)) := by
                  refine ⟨fun h2 => ?_, fun h2 => ?_⟩
                  · obtain ⟨z1, z2, z3, z4, z5⟩ := HA9.out.load htS (by rw [hlen]; exact h2)
                    exact ⟨by rw [hE, z1], z2, by rw [hgn, z3, List.length_map, hlen]⟩
                  · rw [hE, HA9.out.three htS (by rw [hlen]; omega)]
                have HQ8 : Hid (∀ i, i < 8 → 0 ≤ ldN B9 L t cnt9 i ∧ ldN B9 L t cnt9 i ≤ ((1000 * (j + 1) + 10 * t + 1 : Nat) : Int)) := fun i hi => by
                  have := HQ9.out i hi
                  by_cases h2 : ce ≤ 2
                  · obtain ⟨z1, z2, z3, z4, z5⟩ := HA9.out.load htS (by rw [hlen]; exact h2)
                    rw [z5]
                    by_cases e : i = kdN (N - 2) (goN N t de)
                    · subst e; rw [upL5_same]; omega
                    · rw [upL5_ne cnt9 e]; omega
                  · have h3 := HA9.out.three htS (by rw [hlen]; omega)
                    rw [(ld_no (by rw [h3]; decide)).2.2.2.2 cnt9]; omega
                obtain ⟨cnt8, hcnt8⟩ : ∃ c, c = ldN B9 L t cnt9 := ⟨_, rfl⟩
                rw [← hcnt8] at HQ8 z8
                have HA8 : Hid (Arr N S at_ L B8 de) := HA9.out.same sm8
                obtain ⟨T8, x8, p8, nw8, o8⟩ := z8
                have HX8 := hid x8
                have HK8 : Hid (Kp W y9) := Sp.kp HK9.out p8 HX9.out.new
                have HMn8 : Hid (M ∉ r :: f :: g :: T8) := nw_out (nw_c (nw_fg nw8)) HM9.out.lt HMn9.out
                have HAl8 : Hid (Al y9 (M :: r :: f :: g :: T8) W.heap.size (.slice (some ⟨vg, 0, none⟩) S vc) at_ N S) := HAl9.out.sp (p8.mono (fun x hx => List.mem_cons_of_mem _ (List.mem_cons_of_mem _ hx))) (fun q h1 h2 => nw_out (nw_c (nw_c (nw_fg nw8))) h1 h2)
                have HM8 : Hid (MpI y9 M (n + 1) ce de) := HM9.out.sp p8 (fun h => HMn9.out (List.mem_cons_of_mem _ h))
                have HxS8 : Hid (StrsIn y9 (.slice xa xn xk) (clL at_ N t)) := HxS.out.sp p8 (fun q hq hm => (Hxq.out q hq).1 (List.mem_cons_of_mem _ (List.mem_cons_of_mem _ hm)))
                have Hxq8 : Hid (∀ q, Value.ownBlock (.slice xa xn xk) = some q → q ∉ M :: r :: f :: g :: T8 ∧ q < y9.heap.size) := fun q hq => ⟨nw_out (nw_c (nw_c (nw_fg nw8))) (Hxq.out q hq).2.1 (Hxq.out q hq).1, Nat.lt_of_lt_of_le (Hxq.out q hq).2.1 p8.size⟩
                obtain ⟨ca, ck, cm, hcv⟩ : ∃ a k m, cv = .slice a m k := by obtain ⟨a, k, e, _⟩ := s8.slice; exact ⟨a, k, _, e⟩
                obtain ⟨ga, gk, hgv⟩ : ∃ a k, gv = .slice a gn k := by obtain ⟨a, k, e⟩ := i8.slice; exact ⟨a, k, by rw [hgn]; exact e⟩
                subst hcv hgv
                have HsC := hid s8
                rw [← hE, ← hkT, ← hkK]
                clear hLd hE hkT hkK hgn hcnt8 s8 i8 sm8 x8 p8 nw8 o8 q0 q1 q2 q3 q4 HX9 HA9 HQ9 HAl9 HM9 HMn9 HK9 HxS Hxq cT
                obtain ⟨U, hU⟩ : ∃ U, U = y9.alloc (.cells #[.int .i64 kT, .slice ca cm ck, .slice ga gn gk, .int .i64 kK] 70) := ⟨_, rfl⟩
                have kR : Kp y9 U := by rw [hU]; exact (Kp.refl y9).alloc _
                have cR : U.cell? ⟨y9.heap.size, 1, none⟩ = some (.slice ca cm ck) := by rw [hU, World.cell?_alloc_at _ _ _ _ rfl]; rfl
                have cR2 : U.cell? ⟨y9.heap.size, 2, none⟩ = some (.slice ga gn gk) := by rw [hU, World.cell?_alloc_at _ _ _ _ rfl]; rfl
                have HU := hid hU
                clear hU
                go_upto_region 28 with fail
                rw [← HU.out]
                clear HU
                go_cut [139] (fun p V => p = .bool false ∧ Hid (Kp U V))
                case first =>
                  have hl1 := fun ty => (HM8.out.sp (kR.sp []) (by simp)).len ty
                  by_cases h2 : ce ≤ 2
                  · obtain ⟨e1, e2, e3⟩ := HLq.out.1 h2
                    subst e1 e3
                    have h2b : (gn : Int) < 3 := by omega
                    have h2c : ¬ (gn : Int) = 3 := by omega
                    have h2d : ((gn : Int) == 3) = false := by simpa using h2c
                    have hEq := equal_any (.slice ca cm ck) (.slice xa xn xk) (clL at_ N t) (clL at_ N t) U (by rw [← e2]; exact HsC.out.kept kR) (HxS8.out.kept kR)
                    rw [decide_eq_true rfl] at hEq
                    go_wp2_with fail
                    refine hEq.mono ?_; rintro e V ⟨rfl, kV⟩
                    have hl2 := fun ty => ((HM8.out.sp (kR.sp []) (by simp)).sp (kV.sp []) (by simp)).len ty
                    have cV := kV.held cR2
                    go_wp2
                    go_meet
                    exact ⟨rfl, kV⟩
                  · have e1 := HLq.out.2 h2
                    have h3 : ce = 3 := by omega
                    subst e1 h3
                    go_wp2
                    go_meet
                    exact ⟨rfl, Kp.refl _⟩
                case rest =>
                  obtain ⟨rfl, KC⟩ := hcut
                  rename World => Z
                  have kZ : Kp y9 Z := kR.trans KC.out
                  have HXZ := hid (HX8.out.kp kZ)
                  have HKZ := hid (HK8.out.trans kZ)
                  have HMZ : Hid (MpI Z M (n + 1) ce de) := HM8.out.sp (kZ.sp []) (by simp)
                  have HAlZ : Hid (Al Z (M :: r :: f :: g :: T8) W.heap.size (.slice (some ⟨vg, 0, none⟩) S vc) at_ N S) := HAl8.out.sp (kZ.sp _) (fun _ _ h => h)
                  have HxSZ : Hid (StrsIn Z (.slice xa xn xk) (clL at_ N t)) := HxS8.out.kept kZ
                  have HxqZ : Hid (∀ q, Value.ownBlock (.slice xa xn xk) = some q → q ∉ M :: r :: f :: g :: T8 ∧ q < Z.heap.size) := fun q hq => ⟨(Hxq8.out q hq).1, Nat.lt_of_lt_of_le (Hxq8.out q hq).2 kZ.size⟩
                  obtain ⟨q0, q1, q2, q3, q4⟩ := LcW.out.kept HKZ.out
                  have hDa := data_any (N : Int) (S : Int) Z
                  have hgg : gg (N : Int) (S : Int) = true := by
                    have := ((lg_iff L).1 HA8.out.good).1
                    rwa [HA8.out.n, HA8.out.s] at this
                  obtain ⟨D, eD⟩ : ∃ D, D = N - 2 := ⟨_, rfl⟩
                  have hD8 : 2 ≤ D ∧ D ≤ 6 := by have := HA8.out.h4; have := HA8.out.h8; omega
                  have hND : N = D + 2 := by omega
                  have HND := hid hND
                  rw [show dI (N : Int) (S : Int) = (D : Int) by unfold dI; rw [if_pos hgg]; omega] at hDa
                  unfold gV at hDa
                  clear HX8 HK8 HM8 HAl8 HxS8 Hxq8 kR cR cR2 KC HsC kZ eD hND
                  go_wp2_with fail
                  refine hDa.mono ?_; rintro e Z1 ⟨rfl, kd1⟩
                  have HX1 := hid (HXZ.out.kp kd1)
                  have HK1 := hid (HKZ.out.trans kd1)
                  have HM1 : Hid (MpI Z1 M (n + 1) ce de) := HMZ.out.sp (kd1.sp []) (by simp)
                  have HAl1 : Hid (Al Z1 (M :: r :: f :: g :: T8) W.heap.size (.slice (some ⟨vg, 0, none⟩) S vc) at_ N S) := HAlZ.out.sp (kd1.sp _) (fun _ _ h => h)
                  have HxS1 : Hid (StrsIn Z1 (.slice xa xn xk) (clL at_ N t)) := HxSZ.out.kept kd1
                  have Hxq1 : Hid (∀ q, Value.ownBlock (.slice xa xn xk) = some q → q ∉ M :: r :: f :: g :: T8 ∧ q < Z1.heap.size) := fun q hq => ⟨(HxqZ.out q hq).1, Nat.lt_of_lt_of_le (HxqZ.out q hq).2 kd1.size⟩
                  clear hDa kd1 HXZ HKZ HMZ HAlZ HxSZ HxqZ q0 q1 q2 q3 q4
                  go_wp2_with fail
                  go_loopw [143] (fun i wr => ∃ (c : Nat) (T' : List Nat) (B' : BS) (cnt : Nat → Int), c ≤ D ∧ i = .int .i64 c ∧ Hid (RdX W wr r b f g T' B' cnt) ∧ Hid (Arr N S at_ L B' de) ∧ Hid (∀ i, i < 8 → 0 ≤ cnt i ∧ cnt i ≤ ((1000 * (j + 1) + 10 * t + 1 + c : Nat) : Int)) ∧ Hid (Al wr (M :: r :: f :: g :: T') W.heap.size (.slice (some ⟨vg, 0, none⟩) S vc) at_ N S) ∧ Hid (MpI wr M (n + 1) ce de) ∧ Hid (M ∉ r :: f :: g :: T') ∧ Hid (StrsIn wr (.slice xa xn xk) (clL at_ N t)) ∧ Hid (∀ q, Value.ownBlock (.slice xa xn xk) = some q → q ∉ M :: r :: f :: g :: T' ∧ q < wr.heap.size) ∧ Hid (Kp W wr)) (fun i _ => D - (intOf i).toNat)
                  case atStart => exact ⟨0, T8, B8, cnt8, by omega, by go_num, HX1, HA8, HQ8, HAl1, HM1, HMn8, HxS1, Hxq1, HK1⟩
                  case round =>
                    clear HX1 HA8 HQ8 HAl1 HM1 HMn8 HxS1 Hxq1 HK1
                    obtain ⟨c', T3, B3, cnt3, hcD, rfl, HX3, HA3, HQ3, HAl3, HM3, HMn3, HxS3, Hxq3, HK3'⟩ := hrel
                    by_cases hcl : c' < D
                    · skip
                      have hcN : c' < N - 2 := by have := HND.out; omega
                      have hlen2 : (goN N t de).length = ce := hlen
                      obtain ⟨q0, q1, q2, q3, q4⟩ := LcW.out.kept HK3'.out
                      have hOn := one_any HX3.out HK3'.out HTW.out (fun i hi => ⟨(HQ3.out i hi).1, by have := (HQ3.out i hi).2; omega⟩) L (.slice a1_ m1_ c1_) (.slice a2_ m2_ c2_) (t : Int) (c' : Int) (fun w' q => ⟨NW.out.1.kept (Sp.kp HK3'.out q HX3.out.new), NW.out.2.kept (Sp.kp HK3'.out q HX3.out.new)⟩)
                      rw [eLn, eLs, eLe] at hOn
                      unfold lV at hOn
                      have hMb := mM_bd (t : Int) (c' : Int) (n := (N : Int)) (by omega)
                      obtain ⟨mo, hmo⟩ : ∃ mo, mo = (mM (N : Int) (t : Int) (c' : Int)).toNat := ⟨_, rfl⟩
                      have hmo2 : mM (N : Int) (t : Int) (c' : Int) = (mo : Int) := by omega
                      have hmoN : mo < 1000 := by omega
                      obtain ⟨E1, hE1⟩ : ∃ E1, E1 = onE B3 L t c' := ⟨_, rfl⟩
                      obtain ⟨X1, hX1⟩ : ∃ X1, X1 = onT B3 L t c' := ⟨_, rfl⟩
                      have HO1 : Hid (ce ≤ 2 ∨ de mo = false → E1 = 0 ∧ X1 = (clL at_ N t).getD c' noS) := fun hh => by
                        obtain ⟨z1, z2, _⟩ := HA3.out.one htS hcN (by rw [hlen2, ← hmo]; exact hh)
                        exact ⟨hE1.trans z1, hX1.trans z2⟩
                      have HO2 : Hid (2 < ce → de mo = true → E1 = 20) := fun h1 h2 => hE1.trans (HA3.out.oneNo htS hcN (by rw [hlen2]; exact h1) (by rw [← hmo]; exact h2)).1
                      have HQ4 : Hid (∀ i, i < 8 → 0 ≤ onN B3 L t c' cnt3 i ∧ onN B3 L t c' cnt3 i ≤ ((1000 * (j + 1) + 10 * t + 1 + (c' + 1) : Nat) : Int)) := fun i hi => by
                        have h0 := HQ3.out i hi
                        by_cases hh : ce ≤ 2 ∨ de mo = false
                        · rcases (HA3.out.one htS hcN (by rw [hlen2, ← hmo]; exact hh)).2.2 cnt3 with e | ⟨jj, _, e⟩
                          · rw [e]; omega
                          · rw [e]
                            by_cases e2 : i = jj
                            · subst e2; rw [upL5_same]; omega
                            · rw [upL5_ne cnt3 e2]; omega
                        · have h1 : 2 < ce := by omega
                          have h2 : de mo = true := by cases hd : de mo with | true => rfl | false => exact absurd (.inr hd) hh
                          rw [(HA3.out.oneNo htS hcN (by rw [hlen2]; exact h1) (by rw [← hmo]; exact h2)).2]
                          omega
                      obtain ⟨cnt4, hcnt4⟩ : ∃ c, c = onN B3 L t c' cnt3 := ⟨_, rfl⟩
                      rw [← hcnt4] at HQ4 hOn
                      rw [← hE1, ← hX1] at hOn
                      have hme := mem_ok (n := (N : Int)) (s := (S : Int)) (t := (t : Int)) (c := (c' : Int)) hgg ⟨by omega, by omega⟩ ⟨by omega, by omega⟩
                      rw [hmo2] at hme
                      have Hme := hid hme
                      clear hE1 hX1 hcnt4 hmo hmo2 hme hlen2 HQ3
                      go_wp2_with fail
                      refine hOn.mono ?_; rintro e y3 ⟨B4, rfl, sm4, z4⟩
                      have HA4 : Hid (Arr N S at_ L B4 de) := HA3.out.same sm4
                      obtain ⟨T4, x4, p4, nw4⟩ := z4
                      have HX4 := hid x4
                      have HK4 : Hid (Kp W y3) := Sp.kp HK3'.out p4 HX3.out.new
                      have HMn4 : Hid (M ∉ r :: f :: g :: T4) := nw_out (nw_c (nw_fg nw4)) HM3.out.lt HMn3.out
                      have HAl4 : Hid (Al y3 (M :: r :: f :: g :: T4) W.heap.size (.slice (some ⟨vg, 0, none⟩) S vc) at_ N S) := HAl3.out.sp (p4.mono (fun x hx => List.mem_cons_of_mem _ (List.mem_cons_of_mem _ hx))) (fun q h1 h2 => nw_out (nw_c (nw_c (nw_fg nw4))) h1 h2)
                      have HM4 : Hid (MpI y3 M (n + 1) ce de) := HM3.out.sp p4 (fun h => HMn3.out (List.mem_cons_of_mem _ h))
                      have HxS4 : Hid (StrsIn y3 (.slice xa xn xk) (clL at_ N t)) := HxS3.out.sp p4 (fun q hq hm => (Hxq3.out q hq).1 (List.mem_cons_of_mem _ (List.mem_cons_of_mem _ hm)))
                      have Hxq4 : Hid (∀ q, Value.ownBlock (.slice xa xn xk) = some q → q ∉ M :: r :: f :: g :: T4 ∧ q < y3.heap.size) := fun q hq => ⟨nw_out (nw_c (nw_c (nw_fg nw4))) (Hxq3.out q hq).2 (Hxq3.out q hq).1, Nat.lt_of_lt_of_le (Hxq3.out q hq).2 p4.size⟩
                      clear hOn sm4 x4 p4 nw4 q0 q1 q2 q3 q4 HX3 HA3 HAl3 HM3 HMn3 HxS3 Hxq3 HK3'
                      obtain ⟨q0, q1, q2, q3, q4⟩ := LcW.out.kept HK4.out
                      have hMe := member_anyL9 (N : Int) (S : Int) (t : Int) (c' : Int) y3
                      rw [Hme.out] at hMe
                      unfold gV pT at hMe
                      simp only at hMe
                      go_wp2_with fail
                      refine hMe.mono ?_; rintro e y4 ⟨rfl, k4⟩
                      have HX5 := hid (HX4.out.kp k4)
                      have HK5 := hid (HK4.out.trans k4)
                      have HM5 : Hid (MpI y4 M (n + 1) ce de) := HM4.out.sp (k4.sp []) (by simp)
                      have HAl5 := hid (HAl4.out.kp k4)
                      have HxS5 : Hid (StrsIn y4 (.slice xa xn xk) (clL at_ N t)) := HxS4.out.kept k4
                      have Hxq5 : Hid (∀ q, Value.ownBlock (.slice xa xn xk) = some q → q ∉ M :: r :: f :: g :: T4 ∧ q < y4.heap.size) := fun q hq => ⟨(Hxq4.out q hq).1, Nat.lt_of_lt_of_le (Hxq4.out q hq).2 k4.size⟩
                      have hl2 := fun ty => HM5.out.len ty
                      have hlk := HM5.out.look mo hmoN
                      have hcl2 : (clL at_ N t).length = N := cl_len _ _ _ (by omega)
                      obtain ⟨pa, pb, po, pc, pe, p1, p2, p3, p5⟩ := HxS5.out.parts
                      simp only [Value.slice.injEq] at pe
                      obtain rfl : xa = some ⟨pb, po, none⟩ := pe.1.trans (p3 (by omega))
                      have hxn : xn = N := pe.2.1.trans hcl2
                      have hxc : c' < xn := by omega
                      have cC := p5 c' (by omega)
                      have Hxc := hid hxn
                      clear hMe k4 q0 q1 q2 q3 q4 HX4 HK4 HM4 HAl4 HxS4 Hxq4 pe p1 p2 p3 p5 hcl2 hxn Hme
                      have hE2 : ce ≤ 2 ∨ ce = 3 := by omega
                      clear hlen
                      by_cases hb3 : ce = 3
                      · have hb3i : ((ce : Int) == 3) = true := by rw [hb3]; rfl
                        have hb3j : (ce : Int) = 3 := by omega
                        cases hde : de mo with
                        | true =>
                          rw [hde] at hlk
                          have e1 := HO2.out (by omega) hde
                          subst e1
                          clear HO1 HO2 hde hb3 hE2 cC
                          go_wp2
                          go_roundw
                          case rel => exact ⟨c' + 1, T4, B4, cnt4, by omega, by go_num, HX5, HA4, HQ4, HAl5, HM5, HMn4, HxS5, Hxq5, HK5⟩
                          case measure => simp [intOf]; omega
                        | false =>
                          rw [hde] at hlk
                          obtain ⟨e1, e2⟩ := HO1.out (.inr hde)
                          subst e1
                          rw [← e2] at cC
                          clear HO1 HO2 hde hb3 hE2 e2
                          go_wp2
                          go_roundw
                          case rel => exact ⟨c' + 1, T4, B4, cnt4, by omega, by go_num, HX5, HA4, HQ4, HAl5, HM5, HMn4, HxS5, Hxq5, HK5⟩
                          case measure => simp [intOf]; omega
                      · have hb3j : ¬ (ce : Int) = 3 := by omega
                        have hb3i : ((ce : Int) == 3) = false := by simpa using hb3j
                        obtain ⟨e1, e2⟩ := HO1.out (.inl (by omega))
                        subst e1
                        rw [← e2] at cC
                        clear HO1 HO2 hb3 hE2 e2 hlk
                        go_wp2
                        go_roundw
                        case rel => exact ⟨c' + 1, T4, B4, cnt4, by omega, by go_num, HX5, HA4, HQ4, HAl5, HM5, HMn4, HxS5, Hxq5, HK5⟩
                        case measure => simp [intOf]; omega
                    · go_wp2
                      go_roundw
                      case rel => exact ⟨t + 1, T3, B3, cnt3, by omega, by go_num, HX3, HA3, fun i hi => ⟨(HQ3.out i hi).1, by have := (HQ3.out i hi).2; omega⟩, HAl3, HM3, HMn3, HK3'⟩
                      case measure => simp [intOf]; omega
              · go_wp2
                go_roundw
                case rel => exact ⟨j + 1, T9, B9, cnt9, de, n + 1, ce, by omega, by go_num, by omega, by omega, HX9, HA9, fun i hi => ⟨(HQ9.out i hi).1, by have := (HQ9.out i hi).2; omega⟩, HAl9, HM9, hcn, HMn9, HK9⟩
                case measure => simp [intOf]; omega
        · go_wp2
          go_ret
          exact ⟨rfl, KW.out.trans HK2.out⟩

set_option maxRecDepth 100000 in
theorem lifted (os : Os) (started : os.Started) (H : Type) (enc : TypeId × Value → H) :
    ReturnsInHanded {} Tryz.checked os 6 .any (fun w args => (Rows.rowTwoSpec.pre enc Tryz.prog Tryz.f6 [] false w args ∧ laidMetH Tryz.prog lz w) ∧ sizedMet enc Tryz.prog Tryz.f6 (OpenSpec.ofChange Rows.rowTwoSpec) false w args)
      (Rows.rowTwoSpec.post enc Tryz.prog Tryz.f6 false true false false) := by
  refine returnsInHanded_of_change_and (C := Tryz.checked) (X := fun w _ => laidMetH Tryz.prog lz w) (fun _ _ _ hh h => h.of_heap hh) own started (by kernel_rfl) Tryz.func6
    (ChangeSpec.witness_shaped (enc := enc) (C := Tryz.checked) (os := os) (X := fun w _ => laidMetH Tryz.prog lz w) false (World.doorLaid Tryz.prog 400 os) #[.agg #[.int .i64 0, .int .i64 0, .slice none 0 0, .slice none 0 0, .slice none 0 0], .agg #[.int .i64 0, .int .i64 0, .int .i64 0]] 8 rfl (World.shaped_of_RefB (by kernel_rfl) (by kernel_rfl)) (by kernel_rfl) (by kernel_rfl) (by kernel_rfl) (door_met os _)) ?_
  intro W base args ds gs before hval0 hW hcnd _ hL _
  have hval : ∀ (j : Nat) t v, Tryz.f6.params[j]? = some t → args[j]? = some v → Value.okWide Tryz.prog W .any base t v := hval0
  have hW' := hW
  have hlt := hW.lt
  obtain ⟨p, q, hA0, hV, rfl, hfz, hnd⟩ := hW
  have hA : DataW.TrodAll enc Tryz.prog W 0 (fun _ => true) true Tryz.f6.params.toList args.toList ds p := hA0
  have hAk := hA
  rw [Tryz.params6] at hA hval
  obtain ⟨v0, vs0, d0, ds0, p0, q0, hargs, rfl, rfl, h0, r0⟩ := trodAll_cons hA
  obtain ⟨v1, vs1, d1, ds1, p1, q1, rfl, rfl, rfl, h1, r1⟩ := trodAll_cons r0
  obtain ⟨rfl, rfl, rfl⟩ := trodAll_nil r1
  obtain rfl : args = #[v0, v1] := by cases args; simp_all
  obtain ⟨rfl, rfl⟩ := trodVars_none hV
  obtain ⟨m0, s0, sv0, mv0, dv0, st0, mk0, nd0, D0, rfl, w0, x0, y0⟩ := open_setup (hval 0 25 v0 rfl rfl) h0
  obtain ⟨a1, b1, c1, rfl, w1, x1, y1⟩ := open_ints3 Tryz.underlying45 Tryz.underlying3 cellsI cellsK (hval 1 45 v1 rfl rfl) h1
  clear hA0 hval0
  simp only [List.append_nil] at hW' hAk hlt
  have hwk := walk W (of_laid hL) m0 s0 sv0 mv0 dv0 st0 mk0 nd0 D0 a1 b1 c1 w0 x0 y0 w1 x1 y1
  refine hwk.mono fun e W' ⟨he, hg⟩ => ?_
  subst he
  exact ⟨_, rfl, post_kp (pv := []) hW' (fun _ _ _ => (trodAll_cons_mk (shut_bool Tryz.underlying4 _) trodAll_mk0)) (fun sp hsp => trodAll_stays laidOut (by rw [Tryz.params6]; exact of_decide_eq_true (by kernel_rfl)) hAk (fun x hx => Below.same hg (hlt x hx)) hsp) (fun _ _ => rfl) (by simp) hg⟩

theorem over : Rows.rowTwoRow.holds Tryz.pinned (OpenSpec.ofChange Rows.rowTwoSpec) :=
  OpenClaim.holds_of_wide 6 Tryz.f6 rfl rfl rfl rfl rfl rfl rfl ⟨rfl, rfl, rfl, rfl, rfl⟩ rfl rfl rfl rfl rfl (by kernel_rfl) Tryz.func6 (by kernel_rfl)
    (of_decide_eq_true (by kernel_rfl)) (by unfold Func.isWrapper; first | (rw [if_pos (by decide +kernel)]; kernel_rfl) | (rw [if_neg (by decide +kernel)]; exact ⟨rfl, rfl⟩))
    (fun os started H enc _ => lifted os started H enc)

theorem card : Claim7.holds Tryz.pinned (.plain (OpenSpec.ofChange Rows.rowTwoSpec)) Rows.rowTwoCard :=
  Claim7.holds_tied_plain_at .later [] [.data] true Rows.rowTwoCard.stood.harness false
    over (fun _ h => by cases h) (by kernel_rfl) (fun _ h => by cases h) rowTwo_row_tie rfl ⟨rfl, rfl⟩ (by kernel_rfl) rfl
    (fun f fn hf hfn => by
      have e : some f = some 6 := hf.symm.trans (by kernel_rfl)
      obtain rfl := Option.some.inj e
      obtain rfl : fn = Tryz.f6 := (Option.some.inj (Tryz.func6.symm.trans hfn)).symm
      exact ⟨by kernel_rfl, fun j t ht => by
        rw [Tryz.params6] at ht
        have hm : t ∈ [25, 45] := by simpa using Array.mem_of_getElem? ht
        have hall : ([25, 45].all fun u => !Tryz.prog.wantsStandIn u) = true := by kernel_rfl
        exact (show Tryz.prog.wantsStandIn t = false by simpa using List.all_eq_true.1 hall t hm)⟩)
    (by kernel_rfl)

end Go.Proofs.YtonooelffokfkaaGreatDoor.rowTwo
namespace Go.Proofs.YtonooelffokfkaaGreatDoor
theorem rowTwo_holds : Rows.RowTwoCardSaid := rowTwo.card
end Go.Proofs.YtonooelffokfkaaGreatDoor
