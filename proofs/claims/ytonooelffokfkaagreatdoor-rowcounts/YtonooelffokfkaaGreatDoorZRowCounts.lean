/-
  RowCounts: for every input the law answers true, and its arguments read as before. The condition: the library's table reads as it is laid.
-/
import Derived.Test.YtonooelffokfkaaGreatDoorRows
import Derived.Test.YtonooelffokfkaaGreatDoorCards
import Derived.Test.YtonooelffokfkaaGreatDoorTie
import Derived.Test.YtonooelffokfkaaGreatDoorZSet
import Derived.WalkKit
import Derived.ProofKit
import Derived.OpenShut
import Derived.ShutString
import Derived.LaidMore
import Derived.SevenTiedAt
import Derived.Stop.Joined
namespace Go.Proofs.YtonooelffokfkaaGreatDoor.rowCounts
open Go.ChangeShapes Go.WideShapes Go.ChangeAt Go.RowKit
open Go.ChangeMaps (open_string shut_string)
open Plain Go.BigFrame
set_option linter.unusedVariables false

theorem own : ownKnob Tryz.prog.godebug = none := by kernel_rfl
theorem laidOut : laidOutB Tryz.prog = true := by kernel_rfl
theorem cellsI : Tryz.prog.cellsOf 3 = 1 := by kernel_rfl
/-- eight counts in a block. -/
structure C8 (w : World) (A : Nat) (cnt : Nat → Int) : Prop where
  lt : A < w.heap.size
  c : ∀ j, j < 8 → w.cell? ⟨A, j, none⟩ = some (.int .i64 (cnt j))
  z : ∀ o, w.frozen? ⟨A, o, none⟩ = false
theorem C8.new (w : World) : C8 (w.alloc (.cells #[.int .i64 0, .int .i64 0, .int .i64 0, .int .i64 0, .int .i64 0, .int .i64 0, .int .i64 0, .int .i64 0] 108)) w.heap.size (fun _ => 0) := by
  refine ⟨by simp, fun j hj => ?_, fun o => by rw [frozen?_alloc_cells]; simp [World.frozen?]⟩
  rw [World.cell?_alloc_at _ _ _ _ rfl]
  have : j = 0 ∨ j = 1 ∨ j = 2 ∨ j = 3 ∨ j = 4 ∨ j = 5 ∨ j = 6 ∨ j = 7 := by omega
  rcases this with rfl | rfl | rfl | rfl | rfl | rfl | rfl | rfl <;> rfl
theorem C8.sp {w w' : World} {A : Nat} {cnt : Nat → Int} {T : List Nat} (h : C8 w A cnt) (k : Sp T w w') (hA : A ∉ T) : C8 w' A cnt := ⟨Nat.lt_of_lt_of_le h.lt k.size, fun j hj => k.held (h.c j hj) hA, fun o => (k.frozen h.lt hA o).trans (h.z o)⟩
theorem C8.put {w : World} {A : Nat} {cnt : Nat → Int} (h : C8 w A cnt) (j : Nat) (hj : j < 8) : C8 (w.setCell ⟨A, j, none⟩ (.int .i64 (cnt j + 1))) A (upL5 cnt j) := by
  refine ⟨by simp [World.setCell]; exact h.lt, fun i hi => ?_, fun o => by rw [World.frozen?_setCell]; exact h.z o⟩
  by_cases e : i = j
  · subst e; rw [upL5_same]; exact World.cell?_setCell_same _ _ _ (h.c i hi)
  · rw [upL5_ne cnt e, cell_off _ _ _ _ _ e]; exact h.c i hi
theorem ints_parts {w : World} {v : Value} {l : List Int} (h : IntsIn w v l) : ∃ a g off cap, v = .slice a l.length cap ∧ l.length ≤ cap ∧ cap ≤ maxLen ∧ (0 < l.length → a = Option.some ⟨g, off, none⟩) ∧ ∀ i, i < l.length → w.cell? ⟨g, off + i, none⟩ = Option.some (.int .i64 (l.getD i 0)) := by
  cases h with
  | empty a cap h => exact ⟨a, 0, 0, cap, rfl, by simp, h, fun h => absurd h (by simp), fun i hi => absurd hi (by simp)⟩
  | some b off cap l h0 h1 h2 hc => exact ⟨_, b, off, cap, rfl, h1, h2, fun _ => rfl, hc⟩

set_option maxRecDepth 100000 in
set_option maxHeartbeats 8000000 in
theorem walk (w : World) (hT : Tab w) (m0 s0 : Int) (sv0 mv0 dv0 : Value) (st0 mk0 : List Int) (nd0 : Nat) (D0 : Nat → Nat) (a1 : Value) (l1 : List Int) (a2 : Int) (w0 : Nl w sv0 st0) (x0 : Nl w mv0 mk0) (y0 : Bl w dv0 nd0 D0) (w1 : IntsIn w a1 l1) (w2 : (Lit.int .i64 a2).wf = true) :
    Calls Tryz.prog 7 #[xV m0 s0 sv0 mv0 dv0, a1, .int .i64 a2] w fun e w' => e = .returned (.bool true) ∧ Kp w w' := by
  have b2 := bounds_i64 w2
  have hmax := @imax Tryz.prog
  have hmin := @imin Tryz.prog
  obtain ⟨da, dp, dm, hdv⟩ : ∃ a k n, dv0 = .slice a n k := by obtain ⟨a, g, o, cap, h, _⟩ := y0; exact ⟨a, cap, _, h⟩
  obtain ⟨ma, mp, mm_, hmv⟩ := x0.shape'
  obtain ⟨sa, sp_, sm_, hsv⟩ := w0.shape'
  have hl := fun w' (k : Kp w w') => labels_any m0 s0 (.slice none 0 0) mv0 dv0 [] mk0 w' (Nl.nil w') (x0.kept k) ⟨_, _, _, hdv⟩
  have hn := suN_bd m0
  have hs := suS_bd s0
  obtain ⟨N, eN⟩ : ∃ N : Nat, suN m0 = N := ⟨(suN m0).toNat, by omega⟩
  obtain ⟨S, eS⟩ : ∃ S : Nat, suS s0 = S := ⟨(suS s0).toNat, by omega⟩
  rw [eN] at hn
  rw [eS] at hs
  have hN4 : 4 ≤ N := by omega
  have hN8 : N ≤ 8 := by omega
  have hS1 : 1 ≤ S := by omega
  have hS6 : S ≤ 6 := by omega
  rw [eN, eS] at hl
  have hb := fun v3 v4 w' (k : Kp w w') => bays_any m0 s0 (.slice none 0 0) mv0 dv0 nd0 D0 N S hN4 hN8 hS1 hS6 v3 v4 w' ⟨_, _, _, rfl⟩ ⟨_, _, _, hmv⟩ (y0.kept k)
  have hAr : Arr N S (atB nd0 D0) (suL m0 s0 [] mk0) (baB N (atB nd0 D0) S) (fun _ => false) := Arr.start hN4 hN8 hS6 eN eS (su_good _ _ _ _) (by
    have := su_whole m0 s0 mk0
    rw [eN, eS] at this
    simpa using this)
  have HA := hid hAr
  have HLe : Hid ((suL m0 s0 [] mk0).n = (N : Int) ∧ (suL m0 s0 [] mk0).s = (S : Int) ∧ (suL m0 s0 [] mk0).ep = 1) := ⟨eN, eS, rfl⟩
  obtain ⟨L, eL⟩ : ∃ L, L = suL m0 s0 [] mk0 := ⟨_, rfl⟩
  obtain ⟨at_, eat⟩ : ∃ f, f = atB nd0 D0 := ⟨_, rfl⟩
  rw [← eL] at hl HLe
  rw [← eL, ← eat] at HA
  rw [← eat] at hb
  obtain ⟨B0, eB0⟩ : ∃ B, B = baB N at_ S := ⟨_, rfl⟩
  rw [← eB0] at hb HA
  subst hdv hmv hsv
  clear hAr eL eat eB0 eN eS hn hs y0 x0 w0
  unfold lV at hl hb
  go_enter Tryz.func7, Tryz.ntmps7
  go_wp2_with fail
  refine (hl _ ((Kp.refl w).alloc _)).mono ?_; rintro e u1 ⟨v1, v2, v3, v4, rfl, ⟨n1, n2, n3, n4⟩, k1⟩
  obtain ⟨a1_, c1_, m1_, rfl⟩ := n1.shape'
  obtain ⟨a2_, c2_, m2_, rfl⟩ := n2.shape'
  obtain ⟨a3_, c3_, m3_, rfl⟩ := n3.shape'
  obtain ⟨a4_, c4_, m4_, rfl⟩ := n4.shape'
  have xx : ∀ j v, [Value.int .i64 m0, .int .i64 s0, .slice none 0 0, .slice ma mm_ mp, .slice da dm dp][j]? = some v → u1.cell? ⟨w.heap.size, j, none⟩ = some v := fun j v hv => k1.held ((Kp.refl _).held (by
    rw [World.cell?_alloc_at _ _ _ _ rfl]
    simpa using hv))
  have y0 := xx 0 _ rfl
  have y1 := xx 1 _ rfl
  have y2 := xx 2 _ rfl
  have y3 := xx 3 _ rfl
  have y4 := xx 4 _ rfl
  have K1 : Hid (Kp w u1) := ((Kp.refl w).alloc _).trans k1
  have hs1 : w.heap.size < u1.heap.size := World.block_lt_of_cell? _ _ y0
  have N1 := hid n1
  have N2 := hid n2
  clear hl k1 xx n1 n2 n3 n4
  go_wp2_with fail
  obtain ⟨W, hW⟩ : ∃ W, W = (u1.alloc (.cells #[.int .i64 (N : Int), .int .i64 (S : Int), .int .i64 1, .slice a1_ m1_ c1_, .slice a2_ m2_ c2_] 30)).alloc (.cells #[.int .i64 (N : Int), .int .i64 (S : Int), .int .i64 1, .slice a3_ m3_ c3_, .slice a4_ m4_ c4_] 33) := ⟨_, rfl⟩
  have KW : Hid (Kp w W) := by show Kp w W; rw [hW]; exact (K1.out.alloc _).alloc _
  have KW1 : Kp u1 W := by rw [hW]; exact ((Kp.refl u1).alloc _).alloc _
  have LcW : Hid (Lc W u1.heap.size N S 1 (.slice a1_ m1_ c1_) (.slice a2_ m2_ c2_)) := by
    show Lc W _ _ _ _ _ _
    rw [hW]; exact (Lc.new u1 N S 1 _ _ _).kept ((Kp.refl _).alloc _)
  have NW : Hid (Nl W (.slice a1_ m1_ c1_) L.sts ∧ Nl W (.slice a2_ m2_ c2_) L.mks) := ⟨N1.out.kept KW1, N2.out.kept KW1⟩
  have HTW : Hid (Tab W) := hT.kp KW.out
  rw [← hW]
  clear hW KW1 K1 N1 N2 y0 y1 y2 y3 y4 hs1
  refine (hb _ _ _ KW.out).mono ?_; rintro e u2 ⟨b, y, T0, rfl, ⟨T, R, rfl, oB, oD, dj⟩, k2⟩
  have K2 := hid k2
  have HoB := hid oB
  have hwk := wakes16 u2 (HTW.out.kp k2)
  clear hb oD dj oB k2
  go_wp2_with fail
  refine hwk.mono ?_; rintro e u3 ⟨rfl, k3⟩
  have K3 : Hid (Kp W u3) := K2.out.trans k3
  have HoB3 : Hid (Bw W u3 b T B0) := OL.bw.sp HoB.out (k3.sp []) (fun _ _ h => by cases h)
  have hsz := bw_size HoB3.out
  rw [HA.out.len] at hsz
  clear hwk k3 HoB K2
  go_wp2_with fail
  refine hsz.mono ?_; rintro e u4 ⟨rfl, rfl⟩
  have tm : (max 0 a2).tmod (N : Int) = (max 0 a2) % (N : Int) := Int.tmod_eq_emod_of_nonneg (by omega)
  have hN0 : ((N : Int) == 0) = false := beq_eq_false_iff_ne.2 (by omega)
  have hN00 : ¬ (N : Int) = 0 := by omega
  have hN40 : ¬ (N : Int) < 4 := by omega
  have tp := Int.emod_nonneg (max 0 a2) (show (N : Int) ≠ 0 by omega)
  have tq := Int.emod_lt_of_pos (max 0 a2) (show 0 < (N : Int) by omega)
  obtain ⟨M, eM⟩ : ∃ M : Nat, (max 0 a2) % (N : Int) = M := ⟨((max 0 a2) % (N : Int)).toNat, by omega⟩
  rw [eM] at tm tp tq
  have hM : M < N := by omega
  have hfd : fdE B0 M = 0 := if_pos ⟨by omega, by rw [HA.out.len]; omega⟩
  obtain ⟨x, hMem, _, hFail⟩ := bw_mem HoB3.out K3.out hfd
  have eM2 := eM
  clear tp tq
  go_wp2_with fail
  refine hsz.mono ?_; rintro e u5 ⟨rfl, rfl⟩
  go_wp2_with fail
  refine hMem.mono ?_; rintro e u6 ⟨rfl, rfl⟩
  go_wp2_with fail
  refine hFail.mono ?_; rintro e u7 ⟨rfl, n7⟩
  have hA7 := HA.out.fail M hM
  obtain ⟨B7, eB7⟩ : ∃ B, B = put B0 (M : Int) (fa (bm B0 (M : Int))) := ⟨_, rfl⟩
  rw [← eB7] at n7 hA7
  have hgo : Hid (∀ t, t < S → (goN N t (fun i => if i = M then true else (fun _ => false) i)).length = 1) := fun t ht => by
    rw [goN_len hN4 hN8 (by omega)]
    exact one_cnt N (by omega) M hM
  obtain ⟨dd, edd⟩ : ∃ f : Nat → Bool, f = (fun i => if i = M then true else (fun _ => false) i) := ⟨_, rfl⟩
  rw [← edd] at hA7 hgo
  have HA7 := hid hA7
  have K7 : Hid (Kp W u7) := n7.below OL.bw HoB3.out K3.out
  obtain ⟨T7, o7, s7, nw7⟩ := n7
  have hNew := rnew_any' o7 K7.out
  clear hMem hFail hA7 eB7 o7 s7 nw7 HoB3 K3 HA hsz eM eM2 tm hfd edd
  go_wp2_with fail
  refine hNew.mono ?_; rintro e u8 ⟨r, f, g, rfl, x8, k8⟩
  have K8 : Hid (Kp W u8) := K7.out.trans k8
  have HX8 := hid x8
  have HI8 : Hid (IntsIn u8 a1 l1) := w1.kept (KW.out.trans K8.out)
  clear hNew k8 x8 K7
  obtain ⟨A, hA⟩ : ∃ A, A = u8.heap.size := ⟨_, rfl⟩
  have HAe := hid hA
  have kU : Kp u8 (u8.alloc (.cells #[.int .i64 0, .int .i64 0, .int .i64 0, .int .i64 0, .int .i64 0, .int .i64 0, .int .i64 0, .int .i64 0] 108)) := (Kp.refl u8).alloc _
  have c8 : C8 (u8.alloc (.cells #[.int .i64 0, .int .i64 0, .int .i64 0, .int .i64 0, .int .i64 0, .int .i64 0, .int .i64 0, .int .i64 0] 108)) u8.heap.size (fun _ => 0) := C8.new u8
  obtain ⟨U, hU⟩ : ∃ U, U = u8.alloc (.cells #[.int .i64 0, .int .i64 0, .int .i64 0, .int .i64 0, .int .i64 0, .int .i64 0, .int .i64 0, .int .i64 0] 108) := ⟨_, rfl⟩
  rw [← hU] at kU c8
  have HU := hid hU
  clear hU
  have KU : Hid (Kp u8 U) := kU
  have HC8 : Hid (C8 U A (fun _ => 0)) := by rw [hA]; exact c8
  obtain ⟨ia, ig, io, ip, hia, li1, li2, li3, hIw⟩ := ints_parts w1
  have li4 : ∀ j, j < l1.length → u8.cell? ⟨ig, io + j, none⟩ = some (.int .i64 (l1.getD j 0)) := fun j hj => (KW.out.trans K8.out).held (hIw j hj)
  subst hia
  obtain ⟨n1, en1⟩ : ∃ n, n = l1.length := ⟨_, rfl⟩
  obtain ⟨kk, ekk⟩ : ∃ k, k = min n1 20 := ⟨_, rfl⟩
  have hkk : min (n1 : Int) 20 = (kk : Int) := by omega
  have hk1 : kk ≤ n1 := by omega
  have hk20 : kk ≤ 20 := by omega
  rw [← en1] at li1 li3 li4 hIw
  have li2' : ip ≤ 9223372036854775807 := by unfold maxLen at li2; omega
  have HI9 : Hid (∀ j, j < n1 → u8.cell? ⟨ig, io + j, none⟩ = some (.int .i64 (l1.getD j 0))) := li4
  have HIw : Hid (∀ j, j < n1 → w.cell? ⟨ig, io + j, none⟩ = some (.int .i64 (l1.getD j 0))) := hIw
  have HI10 : Hid (0 < n1 → ia = some ⟨ig, io, none⟩) := li3
  rw [← en1]
  clear li3 li4 en1 HI8 ekk
  go_upto_region 9 with fail
  rw [← HU.out]
  clear HU
  go_cut [56, 57, 58] (fun p q i wx => ∃ a', p = .slice a' kk ip ∧ q = .int .i64 (kk : Int) ∧ i = .int .i64 ((0 : Nat) : Int) ∧ (0 < kk → a' = some ⟨ig, io, none⟩) ∧ U = wx)
  case first =>
    by_cases h0 : 0 < n1
    · obtain rfl := HI10.out h0
      go_wp2_with fail
      go_meet
      exact ⟨_, rfl, rfl, rfl, fun _ => rfl, rfl⟩
    · have hn0 : n1 = 0 := by omega
      subst hn0
      obtain rfl : kk = 0 := by omega
      cases ia with
      | none =>
        go_wp2_with fail
        go_meet
        exact ⟨_, rfl, rfl, rfl, fun h => absurd h (by omega), rfl⟩
      | some ad =>
        go_wp2_with fail
        go_meet
        exact ⟨_, rfl, rfl, rfl, fun h => absurd h (by omega), rfl⟩
  case rest =>
  obtain ⟨a', rfl, rfl, rfl, ha', rfl⟩ := hcut
  have HnA : Hid (A ∉ f :: g :: T7 ∧ A ≠ r ∧ u8.heap.size ≤ A) := ⟨fun h => by have := HX8.out.low _ h; omega, fun h => by have := HX8.out.hr; omega, by omega⟩
  have HXU : Hid (RdX W U r b f g T7 B7 (fun _ => 0)) := HX8.out.kp KU.out
  have KWU : Hid (Kp W U) := K8.out.trans KU.out
  have HNe : Hid (∀ x, x ∈ A :: f :: g :: T7 → W.heap.size ≤ x) := fun x hx => by
    rcases List.mem_cons.1 hx with rfl | hx
    · have := K8.out.size; omega
    · exact HX8.out.new x hx
  have HIc : Hid (∀ V, Sp (A :: f :: g :: T7) U V → ∀ j, j < kk → V.cell? ⟨ig, io + j, none⟩ = some (.int .i64 (l1.getD j 0))) := fun V q j hj => by
    have c := HIw.out j (by omega)
    have := World.block_lt_of_cell? _ _ c
    have hig : ig < w.heap.size := this
    exact q.held ((KW.out.trans KWU.out).held c) (fun h => by have := HNe.out _ h; have := KW.out.size; omega)
  go_wp2_with fail
  go_loopw [58] (fun i wr => ∃ (k : Nat) (T' : List Nat) (B' : BS) (cnt : Nat → Int), k ≤ kk ∧ i = .int .i64 k ∧ Hid (RdX W wr r b f g T' B' cnt) ∧ Hid (Arr N S at_ L B' dd) ∧ Hid (C8 wr A cnt) ∧ Hid (∀ j, j < 8 → 0 ≤ cnt j ∧ cnt j ≤ k) ∧ Hid (Sp (A :: f :: g :: T7) U wr) ∧ Hid (Nw U T7 T')) (fun i _ => kk - (intOf i).toNat)
  case atStart => exact ⟨0, T7, B7, fun _ => 0, by omega, by go_num, HXU, HA7, HC8, fun j hj => ⟨show (0 : Int) ≤ 0 by omega, show (0 : Int) ≤ ((0 : Nat) : Int) by omega⟩, Sp.refl _ _, Nw.refl _ _⟩
  case round =>
    obtain ⟨k, T', B', cnt, hk, rfl, HX, HAr, HC, HQ, HS, HN⟩ := hrel
    by_cases hlt : k < kk
    · obtain rfl := ha' (by omega)
      have ci := HIc.out wr HS.out k hlt
      obtain ⟨t, et⟩ : ∃ t, t = l1.getD k 0 := ⟨_, rfl⟩
      rw [← et] at ci
      have HKr : Hid (Kp W wr) := Sp.kp KWU.out HS.out HNe.out
      obtain ⟨q0, q1, q2, q3, q4⟩ := LcW.out.kept HKr.out
      have hLd := ldd_any HX.out HKr.out HTW.out (fun j hj => ⟨(HQ.out j hj).1, by have := (HQ.out j hj).2; omega⟩) L (.slice a1_ m1_ c1_) (.slice a2_ m2_ c2_) t (fun w' q => ⟨NW.out.1.kept (Sp.kp HKr.out q HX.out.new), NW.out.2.kept (Sp.kp HKr.out q HX.out.new)⟩)
      obtain ⟨eLn, eLs, eLe⟩ := HLe.out
      rw [eLn, eLs, eLe] at hLd
      unfold lV at hLd
      clear et
      by_cases htS : 0 ≤ t ∧ t < S
      · obtain ⟨tn, rfl⟩ : ∃ tn : Nat, t = tn := ⟨t.toNat, by omega⟩
        have htn : tn < S := by omega
        obtain ⟨z1, z2, z3, z4, z5⟩ := HAr.out.load htn (by rw [hgo.out tn htn]; omega)
        rw [z1, z4, z5, (ld_yes z1).2.2.2.1] at hLd
        have hkd := kdN_lt (N - 2) (goN N tn dd)
        obtain ⟨kd, ekd⟩ : ∃ kd, kd = kdN (N - 2) (goN N tn dd) := ⟨_, rfl⟩
        rw [← ekd] at hLd hkd
        clear z1 z2 z3 z4 z5 ekd
        go_wp2_with fail
        refine hLd.mono ?_; rintro e u9 ⟨cv, gv, B9, rfl, s9, i9, sm9, z9⟩
        have hAT : Hid (A ∉ f :: g :: T') := nw_out (nw_fg HN.out) HC8.out.lt HnA.out.1
        have HC9 : Hid (C8 u9 A cnt) := HC.out.sp z9.sp hAT.out
        have HS9 : Hid (Sp (A :: f :: g :: T7) U u9) := HS.out.then (z9.sp.mono (fun x hx => List.mem_cons_of_mem _ hx)) (nw_c (nw_fg HN.out))
        have HA9 : Hid (Arr N S at_ L B9 dd) := HAr.out.same sm9
        obtain ⟨T9, x9, _, nw9⟩ := z9
        have HX9 := hid x9
        have HN9 : Hid (Nw U T7 T9) := HN.out.trans nw9 HS.out.size
        obtain ⟨ca, ck, cm, hcv⟩ : ∃ a k m, cv = .slice a m k := by obtain ⟨a, k, e, _⟩ := s9.slice; exact ⟨a, k, _, e⟩
        obtain ⟨ga, gk, gm, hgv⟩ : ∃ a k m, gv = .slice a m k := by obtain ⟨a, k, e⟩ := i9.slice; exact ⟨a, k, _, e⟩
        subst hcv hgv
        clear hLd s9 i9 sm9 x9 nw9 q0 q1 q2 q3 q4 ci HX HC HS HN HAr
        have cA := HC9.out.c kd hkd
        have zA := HC9.out.z kd
        have hAl := HC9.out.lt
        have hb9 := (HQ.out kd hkd)
        have hwr : IntKind.i64.wrap (cnt kd + 1) = cnt kd + 1 := by rw [IntKind.wrap_i64]; omega
        obtain ⟨ck0, eck⟩ : ∃ c, c = cnt kd := ⟨_, rfl⟩
        have HK9 : Hid (ck0 = cnt kd) := eck
        rw [← eck] at cA hwr hb9
        clear eck
        have hp10 := HC9.out.put kd hkd
        rw [← HK9.out] at hp10
        have s11 : Sp [A] u9 (u9.setCell ⟨A, kd, none⟩ (.int .i64 (ck0 + 1))) := one_sp _ _ _ _
        have kR := (Kp.refl (u9.setCell ⟨A, kd, none⟩ (.int .i64 (ck0 + 1)))).alloc (.cells #[.int .i64 (tn : Int), .slice ca cm ck, .slice ga gm gk, .int .i64 (kd : Int)] 70)
        have hAT9 : Hid (A ∉ f :: g :: T9) := nw_out (nw_fg HN9.out) HC8.out.lt HnA.out.1
        have HX11 := hid ((HX9.out.sp s11 (fun x hx hm => by
          have e : x = A := List.mem_singleton.1 hm
          subst e
          rcases List.mem_cons.1 hx with h | h
          · exact HnA.out.2.1 h
          · exact hAT9.out h)).kp kR)
        have HC11 := hid (hp10.sp (kR.sp []) (by simp))
        have HS11 := hid ((HS9.out.trans (s11.mono (fun x hx => by rw [List.mem_singleton.1 hx]; exact List.mem_cons_self))).trans (kR.sp _))
        have HQ11 : Hid (∀ j, j < 8 → 0 ≤ upL5 cnt kd j ∧ upL5 cnt kd j ≤ ((k + 1 : Nat) : Int)) := fun j hj => by
          have := HQ.out j hj
          by_cases e : j = kd
          · subst e; rw [upL5_same]; omega
          · rw [upL5_ne cnt e]; omega
        rw [HAe.out] at cA zA hAl HX11 HC11 HS11
        clear kR HX9 HC9 HS9 hp10 s11
        go_wp2
        go_roundw
        case rel => exact ⟨k + 1, T9, B9, upL5 cnt kd, by omega, by go_num, HX11, HA9, by rw [HAe.out]; exact HC11, HQ11, by rw [HAe.out]; exact HS11, HN9⟩
        case measure => simp [intOf]; omega
      · have z1 : ldE B' L t = 3 := by
          have e := ls_out (L := L) (t := t) (HAr.out.good) (by rw [HAr.out.s]; exact htS)
          rw [ld_1 (by rw [e]; decide), e]
        obtain ⟨_, _, z4, z6, z5⟩ := ld_no (B := B') (L := L) (t := t) (by rw [z1]; decide)
        rw [z1, z4, z5, z6] at hLd
        clear z1 z4 z5 z6
        go_wp2_with fail
        refine hLd.mono ?_; rintro e u9 ⟨cv, gv, B9, rfl, s9, i9, sm9, z9⟩
        have hAT : Hid (A ∉ f :: g :: T') := nw_out (nw_fg HN.out) HC8.out.lt HnA.out.1
        have HC9 : Hid (C8 u9 A cnt) := HC.out.sp z9.sp hAT.out
        have HS9 : Hid (Sp (A :: f :: g :: T7) U u9) := HS.out.then (z9.sp.mono (fun x hx => List.mem_cons_of_mem _ hx)) (nw_c (nw_fg HN.out))
        have HA9 : Hid (Arr N S at_ L B9 dd) := HAr.out.same sm9
        obtain ⟨T9, x9, _, nw9⟩ := z9
        have HX9 := hid x9
        have HN9 : Hid (Nw U T7 T9) := HN.out.trans nw9 HS.out.size
        obtain ⟨ca, ck, cm, hcv⟩ : ∃ a k m, cv = .slice a m k := by obtain ⟨a, k, e, _⟩ := s9.slice; exact ⟨a, k, _, e⟩
        obtain ⟨ga, gk, gm, hgv⟩ : ∃ a k m, gv = .slice a m k := by obtain ⟨a, k, e⟩ := i9.slice; exact ⟨a, k, _, e⟩
        subst hcv hgv
        clear hLd s9 i9 sm9 x9 nw9 q0 q1 q2 q3 q4 ci HX HC HS HN HAr
        have kR := (Kp.refl u9).alloc (.cells #[.int .i64 0, .slice ca cm ck, .slice ga gm gk, .int .i64 0] 70)
        have HX10 := hid (HX9.out.kp kR)
        have HC10 : Hid (C8 _ A cnt) := HC9.out.sp (kR.sp []) (by simp)
        have HS10 := hid (HS9.out.trans (kR.sp _))
        have HQ10 : Hid (∀ j, j < 8 → 0 ≤ cnt j ∧ cnt j ≤ ((k + 1 : Nat) : Int)) := fun j hj => ⟨(HQ.out j hj).1, by have := (HQ.out j hj).2; omega⟩
        clear kR HX9 HC9 HS9
        go_wp2
        go_roundw
        case rel => exact ⟨k + 1, T9, B9, cnt, by omega, by go_num, HX10, HA9, HC10, HQ10, HS10, HN9⟩
        case measure => simp [intOf]; omega
    · rename World => wk
      have HKk : Hid (Kp W wk) := Sp.kp KWU.out HS.out HNe.out
      have hfx := fun (j : Nat) (hj : j < 8) w' (q : Kp wk w') => fixed_any (HX.out.kp q) (j : Int)
      have hdn : ∀ j : Nat, j < 8 → doneI cnt (j : Int) = cnt j := fun j hj => by unfold doneI; rw [if_pos ⟨by omega, by omega⟩, Int.toNat_natCast]
      have Hdn := hid hdn
      have HCc : Hid (∀ V, Kp wk V → ∀ j, j < 8 → V.cell? ⟨u8.heap.size, j, none⟩ = some (.int .i64 (cnt j))) := fun V q j hj => q.held (by rw [← HAe.out]; exact HC.out.c j hj)
      clear HC HQ HX HAr HN HIc hdn
      have hkk2 : ¬ (k : Int) < (kk : Int) := by omega
      go_wp2_with fail
      go_loopw [17] (fun i wr => ∃ j : Nat, j ≤ 8 ∧ i = .int .i64 j ∧ Hid (Kp wk wr)) (fun i _ => 8 - (intOf i).toNat)
      case atStart => exact ⟨0, by omega, by go_num, Kp.refl wk⟩
      case round =>
        obtain ⟨j, hj, rfl, HKj⟩ := hrel
        by_cases hj8 : j < 8
        · have hF := hfx j hj8
          rw [Hdn.out j hj8] at hF
          have kd : Kp wr wr.drew := (Kp.refl wr).drew
          have c0 := HCc.out wr HKj.out j hj8
          have d0 := kd.held c0
          obtain ⟨cj, ecj⟩ : ∃ c, c = cnt j := ⟨_, rfl⟩
          rw [← ecj] at c0 d0 hF
          have HK2 : Hid (Kp wk wr.drew) := HKj.out.trans kd
          clear ecj
          go_wp2_with fail
          go_region_held3 (fun V => V.cell? ⟨u8.heap.size, j, none⟩ = some (.int .i64 cj)) (first | exact d0 | exact c0) (first
            | (go_at_call 39; refine (hF _ HK2.out).mono ?_; rintro e u10 ⟨rfl, rfl⟩))
          all_goals (
            go_wp2
            go_roundw
            case rel => exact ⟨j + 1, by omega, by go_num, HK2⟩
            case measure => simp [intOf]; omega)
        · obtain rfl : j = 8 := by omega
          rename World => wz
          have HKz : Hid (Kp W wz) := HKk.out.trans HKj.out
          obtain ⟨q0, q1, q2, q3, q4⟩ := LcW.out.kept HKz.out
          have hL0 := fun w' => load_nil N S 1 0 (.slice a1_ m1_ c1_) (.slice a2_ m2_ c2_) w'
          have hO0 := fun w' => one_nil N S 1 0 0 (.slice a1_ m1_ c1_) (.slice a2_ m2_ c2_) w'
          have hW0 := fun w' => whole_nil N S 1 0 (.slice a1_ m1_ c1_) (.slice a2_ m2_ c2_) w'
          unfold lV at hL0 hO0 hW0
          go_wp2_with fail
          refine (hL0 _).mono ?_; rintro e v1 ⟨rfl, g1⟩
          have G1 : Hid (Kp W v1) := HKz.out.trans g1
          obtain ⟨q0, q1, q2, q3, q4⟩ := LcW.out.kept G1.out
          have hs1 : u1.heap.size < v1.heap.size := World.block_lt_of_cell? _ _ q0
          clear g1 hL0
          go_wp2_with fail
          refine (hO0 _).mono ?_; rintro e v2 ⟨rfl, g2⟩
          have G2 : Hid (Kp W v2) := (G1.out.alloc _).trans g2
          obtain ⟨q0, q1, q2, q3, q4⟩ := LcW.out.kept G2.out
          clear g2 hO0
          go_wp2_with fail
          refine (rnew_nil _).mono ?_; rintro e v3 ⟨rfl, rfl⟩
          go_wp2_with fail
          refine (hW0 _).mono ?_; rintro e v4 ⟨rfl, g4⟩
          have G4 : Hid (Kp W v4) := G2.out.trans g4
          clear g4 hW0
          go_wp2_with fail
          refine (fixed_nil 0 _).mono ?_; rintro e v5 ⟨rfl, rfl⟩
          go_wp2
          go_ret
          exact ⟨rfl, KW.out.trans G4.out⟩

set_option maxRecDepth 100000 in
theorem lifted (os : Os) (started : os.Started) (H : Type) (enc : TypeId × Value → H) :
    ReturnsInHanded {} Tryz.checked os 7 .any (fun w args => (Rows.rowCountsSpec.pre enc Tryz.prog Tryz.f7 [] false w args ∧ laidMetH Tryz.prog lz w) ∧ sizedMet enc Tryz.prog Tryz.f7 (OpenSpec.ofChange Rows.rowCountsSpec) false w args)
      (Rows.rowCountsSpec.post enc Tryz.prog Tryz.f7 false true false false) := by
  refine returnsInHanded_of_change_and (C := Tryz.checked) (X := fun w _ => laidMetH Tryz.prog lz w) (fun _ _ _ hh h => h.of_heap hh) own started (by kernel_rfl) Tryz.func7
    (ChangeSpec.witness_shaped (enc := enc) (C := Tryz.checked) (os := os) (X := fun w _ => laidMetH Tryz.prog lz w) false (World.doorLaid Tryz.prog 400 os) #[.agg #[.int .i64 0, .int .i64 0, .slice none 0 0, .slice none 0 0, .slice none 0 0], .slice none 0 0, .int .i64 0] 8 rfl (World.shaped_of_RefB (by kernel_rfl) (by kernel_rfl)) (by kernel_rfl) (by kernel_rfl) (by kernel_rfl) (door_met os _)) ?_
  intro W base args ds gs before hval0 hW hcnd _ hL _
  have hval : ∀ (j : Nat) t v, Tryz.f7.params[j]? = some t → args[j]? = some v → Value.okWide Tryz.prog W .any base t v := hval0
  have hW' := hW
  have hlt := hW.lt
  obtain ⟨p, q, hA0, hV, rfl, hfz, hnd⟩ := hW
  have hA : DataW.TrodAll enc Tryz.prog W 0 (fun _ => true) true Tryz.f7.params.toList args.toList ds p := hA0
  have hAk := hA
  rw [Tryz.params7] at hA hval
  obtain ⟨v0, vs0, d0, ds0, p0, q0, hargs, rfl, rfl, h0, r0⟩ := trodAll_cons hA
  obtain ⟨v1, vs1, d1, ds1, p1, q1, rfl, rfl, rfl, h1, r1⟩ := trodAll_cons r0
  obtain ⟨v2, vs2, d2, ds2, p2, q2, rfl, rfl, rfl, h2, r2⟩ := trodAll_cons r1
  obtain ⟨rfl, rfl, rfl⟩ := trodAll_nil r2
  obtain rfl : args = #[v0, v1, v2] := by cases args; simp_all
  obtain ⟨rfl, rfl⟩ := trodVars_none hV
  obtain ⟨m0, s0, sv0, mv0, dv0, st0, mk0, nd0, D0, rfl, w0, x0, y0⟩ := open_setup (hval 0 25 v0 rfl rfl) h0
  obtain ⟨l1, w1⟩ := open_intsL Tryz.underlying22 Tryz.underlying3 cellsI (hval 1 22 v1 rfl rfl) h1
  obtain ⟨a2, rfl, rfl, rfl, w2⟩ := open_int Tryz.underlying3 (hval 2 3 v2 rfl rfl) h2
  clear hA0 hval0
  simp only [List.append_nil] at hW' hAk hlt
  have hwk := walk W (of_laid hL) m0 s0 sv0 mv0 dv0 st0 mk0 nd0 D0 v1 l1 a2 w0 x0 y0 w1 w2
  refine hwk.mono fun e W' ⟨he, hg⟩ => ?_
  subst he
  exact ⟨_, rfl, post_kp (pv := []) hW' (fun _ _ _ => (trodAll_cons_mk (shut_bool Tryz.underlying4 _) trodAll_mk0)) (fun sp hsp => trodAll_stays laidOut (by rw [Tryz.params7]; exact of_decide_eq_true (by kernel_rfl)) hAk (fun x hx => Below.same hg (hlt x hx)) hsp) (fun _ _ => rfl) (by simp) hg⟩

theorem over : Rows.rowCountsRow.holds Tryz.pinned (OpenSpec.ofChange Rows.rowCountsSpec) :=
  OpenClaim.holds_of_wide 7 Tryz.f7 rfl rfl rfl rfl rfl rfl rfl ⟨rfl, rfl, rfl, rfl, rfl⟩ rfl rfl rfl rfl rfl (by kernel_rfl) Tryz.func7 (by kernel_rfl)
    (of_decide_eq_true (by kernel_rfl)) (by unfold Func.isWrapper; first | (rw [if_pos (by decide +kernel)]; kernel_rfl) | (rw [if_neg (by decide +kernel)]; exact ⟨rfl, rfl⟩))
    (fun os started H enc _ => lifted os started H enc)

theorem card : Claim7.holds Tryz.pinned (.plain (OpenSpec.ofChange Rows.rowCountsSpec)) Rows.rowCountsCard :=
  Claim7.holds_tied_plain_at .later [] [.data] true Rows.rowCountsCard.stood.harness false
    over (fun _ h => by cases h) (by kernel_rfl) (fun _ h => by cases h) rowCounts_row_tie rfl ⟨rfl, rfl⟩ (by kernel_rfl) rfl
    (fun f fn hf hfn => by
      have e : some f = some 7 := hf.symm.trans (by kernel_rfl)
      obtain rfl := Option.some.inj e
      obtain rfl : fn = Tryz.f7 := (Option.some.inj (Tryz.func7.symm.trans hfn)).symm
      exact ⟨by kernel_rfl, fun j t ht => by
        rw [Tryz.params7] at ht
        have hm : t ∈ [25, 22, 3] := by simpa using Array.mem_of_getElem? ht
        have hall : ([25, 22, 3].all fun u => !Tryz.prog.wantsStandIn u) = true := by kernel_rfl
        exact (show Tryz.prog.wantsStandIn t = false by simpa using List.all_eq_true.1 hall t hm)⟩)
    (by kernel_rfl)

end Go.Proofs.YtonooelffokfkaaGreatDoor.rowCounts
namespace Go.Proofs.YtonooelffokfkaaGreatDoor
theorem rowCounts_holds : Rows.RowCountsCardSaid := rowCounts.card
end Go.Proofs.YtonooelffokfkaaGreatDoor
