/-
  QueueSpans: for every input the law answers true, and its arguments read as before. No condition.
-/
import Derived.Test.YtdfdoinhkjoalaaRows
import Derived.Test.YtdfdoinhkjoalaaBufArgs
import Derived.Test.YtdfdoinhkjoalaaQuSpan
import Derived.WalkKit
import Derived.ProofKit
import Derived.OpenShut
import Derived.ShutString
import Derived.Deep.QuietTactic
import Derived.BigQuiet
import Derived.Deep.RegionWith
import Derived.Deep.RegionHeld3
import Derived.Deep.DeepCutAuto
import Derived.Deep.CutBlock
namespace Go.Proofs.Ytdfdoinhkjoalaa.queueSpans
open Go.ChangeShapes Go.WideShapes Go.ChangeAt Go.RowKit
open Go.ChangeMaps (open_string shut_string)
open Go.Proofs.Ytdfdoinhkjoalaa Plain
set_option linter.unusedVariables false

theorem own : ownKnob Try.prog.godebug = none := by kernel_rfl
theorem laidOut : laidOutB Try.prog = true := by kernel_rfl
/-- a queue and the set of its blocks. -/
structure Sq (S : QS) (F : Int → Bool) (c : Nat) : Prop where
  g : Qg S
  f : ∀ b, F b = hsI S.L b
  n : S.L.length = c
  r : ∀ x ∈ S.L, 0 ≤ x.b ∧ x.b < 1099511627776
theorem Sq.new : Sq ⟨[], 256, 0⟩ (fun _ => false) 0 := ⟨Qg.new 256, fun _ => rfl, rfl, by simp⟩
theorem Sq.put {S : QS} {F : Int → Bool} {c : Nat} (h : Sq S F c) {b : Int} {d : ByteArray} (e : ptE S b d = 0) (hc : S.c + 1 ≤ 1000000000) : Sq (ptS S b d) (fun j => if j = b then true else F j) (if F b = true then c else c + 1) := by
  have hg := h.g.put e hc
  obtain ⟨p1, p2, p3⟩ := put_all h.g.sr b d S.c
  obtain ⟨q1, q2, q3⟩ := pt_range e
  rw [pt_ok e] at hg ⊢
  refine ⟨hg, fun j => ?_, ?_, fun x hx => ?_⟩
  · show (if j = b then true else F j) = hsI (putL b d S.c S.L) j
    rw [hs_get, p3]
    by_cases hj : j = b
    · rw [if_pos hj, if_pos hj]; rfl
    · rw [if_neg hj, if_neg hj, ← hs_get]; exact h.f j
  · show (putL b d S.c S.L).length = _
    rw [p2, h.f b, h.n]
  · rcases put_mem h.g.sr hx with rfl | ⟨h1, h2⟩
    · exact ⟨q1, q2⟩
    · exact h.r x h1
theorem Sq.take {S : QS} {F : Int → Bool} {c : Nat} (h : Sq S F c) (b : Int) : Sq ⟨delL S.L b, S.m, S.c⟩ (fun j => if j = b then false else F j) (if F b = true then c - 1 else c) := by
  obtain ⟨p1, p2, p3⟩ := del_all h.g.sr b
  refine ⟨h.g.take b, fun j => ?_, ?_, fun x hx => h.r x (del_mem h.g.sr hx).1⟩
  · show (if j = b then false else F j) = hsI (delL S.L b) j
    rw [hs_get, p3]
    by_cases hj : j = b
    · rw [if_pos hj, if_pos hj]; rfl
    · rw [if_neg hj, if_neg hj, ← hs_get]; exact h.f j
  · show (delL S.L b).length = _
    rw [p2, h.f b, h.n]
set_option maxRecDepth 100000 in
set_option maxHeartbeats 8000000 in
theorem walk (w : World) (a0 : Value) (l0 : List QA) (a1 : Int) (w0 : Acts w a0 l0) (w1 : (Lit.int .i64 a1).wf = true) :
    Calls Try.prog 4 #[a0, .int .i64 a1] w fun e w' => e = .returned (.bool true) ∧ Kp w w' := by
  have hat := wf_le w1
  clear w1
  obtain ⟨⟨pa, pc, rfl, hp1, hp2, hp3⟩, hok⟩ := w0
  obtain ⟨ln, hln⟩ : ∃ ln, ln = l0.length := ⟨_, rfl⟩
  obtain ⟨pg, po, hpa, hpc⟩ : ∃ pg po, (0 < ln → pa = some ⟨pg, po, none⟩) ∧ ∀ i, i < ln → w.rangeAt pg (po + i * 4) (acs (l0.getD i noA)) := by
    by_cases h0 : 0 < l0.length
    · obtain ⟨g, off, rfl, h⟩ := hp3 h0
      exact ⟨g, off, fun _ => rfl, fun i hi => h i (by omega)⟩
    · exact ⟨0, 0, fun h => absurd h (by omega), fun i hi => absurd hi (by omega)⟩
  rw [← hln] at hp1 ⊢
  have HPC : Hid (∀ V, Kp w V → ∀ i, i < ln → (V.cell? ⟨pg, po + i * 4, none⟩ = some (.int .i64 (l0.getD i noA).b) ∧ V.cell? ⟨pg, po + i * 4 + 1, none⟩ = some (.int .u8 ((l0.getD i noA).d : Int)) ∧ V.cell? ⟨pg, po + i * 4 + 2, none⟩ = some (.bool (l0.getD i noA).odd) ∧ V.cell? ⟨pg, po + i * 4 + 3, none⟩ = some (.bool (l0.getD i noA).out)) ∧ (l0.getD i noA).d < 256 ∧ iOk (l0.getD i noA).b) := fun V k i hi => by
    have h := a_cells (hpc i hi)
    have h2 := hok i (by omega)
    exact ⟨⟨k.held h.1, k.held h.2.1, k.held h.2.2.1, k.held h.2.2.2⟩, h2.d, wf_le h2.b⟩
  clear hp3 hpc hok hln
  obtain ⟨kk, ekk⟩ : ∃ k, k = min ln 80 := ⟨_, rfl⟩
  have hmin : ∀ ts t W, (Builtin.min_ ts t #[.int .i64 (ln : Int), .int .i64 80]).run Try.prog W = .ok (.int .i64 (kk : Int)) W := fun ts t W => by
    rw [imin ts t _ _ W]
    congr 2
    omega
  have hk1 : kk ≤ ln := by omega
  have hk80 : kk ≤ 80 := by omega
  clear ekk
  have hmm : ∀ (t : TypeId) (W : World), (Instr.makeMap t none).run Try.prog W = .ok (.map (some W.heap.size)) (W.alloc (.map #[] 0)) := fun _ _ => rfl
  have hN := qnew_any w 256 w (Nat.le_refl _)
  rw [show qm 256 = 256 from rfl] at hN
  go_enter Try.func4, Try.ntmps4
  go_wp2_with fail
  refine hN.mono ?_; rintro e u1 ⟨q, T1, rfl, x1, k1, t1⟩
  clear hN
  obtain ⟨U, hU⟩ : ∃ U, U = u1.alloc (.map #[] 0) := ⟨_, rfl⟩
  obtain ⟨M, hM⟩ : ∃ M, M = u1.heap.size := ⟨_, rfl⟩
  have kU : Kp u1 U := by rw [hU]; exact (Kp.refl u1).alloc _
  have hM0 : MpB U M 0 0 (fun _ => false) (.map []) := by rw [hU, hM]; exact MpB.made u1
  have hMT : M ∉ T1 := fun h => by have := OL.qx.low x1 M h; omega
  have hMw : w.heap.size ≤ M := by rw [hM]; exact k1.size
  have H0 : Hid (QX w U q T1 ⟨[], 256, 0⟩ ∧ Kp w U ∧ MpB U M 0 0 (fun _ => false) (.map []) ∧ M ∉ T1 ∧ Sq ⟨[], 256, 0⟩ (fun _ => false) 0) := ⟨x1.kept kU, k1.trans kU, hM0, hMT, Sq.new⟩
  have HU : Hid (U = u1.alloc (.map #[] 0) ∧ M = u1.heap.size) := ⟨hU, hM⟩
  have HMw := hid hMw
  clear hU hM kU hM0 hMT hMw x1 k1 t1
  go_upto_region 3 with fail
  rw [← HU.out.1, ← HU.out.2]
  clear HU
  go_cut [17, 18, 19] (fun p qq i wx => ∃ a', p = .slice a' kk pc ∧ qq = .int .i64 (kk : Int) ∧ i = .int .i64 ((0 : Nat) : Int) ∧ (0 < kk → a' = some ⟨pg, po, none⟩) ∧ U = wx)
  case first =>
    by_cases h0 : 0 < ln
    · obtain rfl := hpa h0
      go_wp2_with fail
      go_meet
      exact ⟨_, rfl, rfl, rfl, fun _ => rfl, rfl⟩
    · have hn0 : ln = 0 := by omega
      subst hn0
      obtain rfl : kk = 0 := by omega
      cases pa with
      | none =>
        go_wp2_with fail
        go_meet
        exact ⟨_, rfl, rfl, rfl, fun h => absurd h (by omega), rfl⟩
      | some ad =>
        go_wp2_with fail
        go_meet
        exact ⟨_, rfl, rfl, rfl, fun h => absurd h (by omega), rfl⟩
  case rest =>
  obtain ⟨a', rfl, rfl, rfl, ha', rfl⟩ := hcut
  go_wp2_with fail
  go_loopw [19] (fun i wr => ∃ (k n c : Nat) (T : List Nat) (S : QS) (F : Int → Bool) (D : DataW Unit), k ≤ kk ∧ i = .int .i64 k ∧ n ≤ k ∧ c ≤ k ∧ S.c ≤ k ∧ Hid (QX w wr q T S ∧ Kp w wr ∧ MpB wr M n c F D ∧ M ∉ T ∧ Sq S F c)) (fun i _ => kk - (intOf i).toNat)
  case atStart => exact ⟨0, 0, 0, T1, ⟨[], 256, 0⟩, _, _, by omega, by go_num, by omega, by omega, by simp, H0⟩
  case round =>
    clear H0
    obtain ⟨k, n, c, T, S, F, D, hk, rfl, hnk, hck, hSk, HQ⟩ := hrel
    by_cases hlt : k < kk
    · obtain rfl := ha' (by omega)
      obtain ⟨⟨c0, c1, c2, c3⟩, hd256, hbok⟩ := HPC.out wr HQ.out.2.1 k (by omega)
      obtain ⟨b, eb⟩ : ∃ z, z = (l0.getD k noA).b := ⟨_, rfl⟩
      obtain ⟨d, ed⟩ : ∃ z, z = (l0.getD k noA).d := ⟨_, rfl⟩
      obtain ⟨od, eo⟩ : ∃ z, z = (l0.getD k noA).odd := ⟨_, rfl⟩
      obtain ⟨ou, eu⟩ : ∃ z, z = (l0.getD k noA).out := ⟨_, rfl⟩
      rw [← eb] at c0 hbok
      rw [← ed] at c1 hd256
      rw [← eo] at c2
      rw [← eu] at c3
      obtain ⟨V, hV⟩ : ∃ V, V = wr.alloc (.cells #[.int .i64 b, .int .u8 (d : Int), .bool od, .bool ou] 29) := ⟨_, rfl⟩
      obtain ⟨H, hH⟩ : ∃ H, H = wr.heap.size := ⟨_, rfl⟩
      have e0 : V.cell? ⟨H, 0, none⟩ = some (.int .i64 b) := by rw [hV, hH, World.cell?_alloc_at _ _ _ _ rfl]; rfl
      have e1 : V.cell? ⟨H, 1, none⟩ = some (.int .u8 (d : Int)) := by rw [hV, hH, World.cell?_alloc_at _ _ _ _ rfl]; rfl
      have e3 : V.cell? ⟨H, 3, none⟩ = some (.bool ou) := by rw [hV, hH, World.cell?_alloc_at _ _ _ _ rfl]; rfl
      have kV : Kp wr V := by rw [hV]; exact (Kp.refl wr).alloc _
      have HV : Hid (V = wr.alloc (.cells #[.int .i64 b, .int .u8 (d : Int), .bool od, .bool ou] 29) ∧ H = wr.heap.size) := ⟨hV, hH⟩
      have hHT : H ∉ T := fun h => by have := OL.qx.low HQ.out.1 H h; omega
      have hHM : H ≠ M := fun h => by have := HQ.out.2.2.1.lt; omega
      have KV := hid kV
      have HH : Hid (H ∉ T ∧ H ≠ M) := ⟨hHT, hHM⟩
      clear eb ed eo eu hV hH hHT hHM
      go_upto_region 6 with fail
      rw [← HV.out.1, ← HV.out.2]
      clear HV c0 c1 c2 c3
      cases ou with
      | true =>
        have hTk := qtake_any (HQ.out.1.kept kV) HQ.out.2.2.2.2.g b
        clear kV
        go_wp2_with fail
        refine hTk.mono ?_; rintro e vb ⟨rfl, T', xq, sp, nw⟩
        have hMT' : M ∉ T' := fun h => by
          rcases nw M h with h1 | h1
          · exact HQ.out.2.2.2.1 h1
          · have := (HQ.out.2.2.1.kp KV.out).lt; omega
        have kb1 : Kp w vb := Sp.kp (HQ.out.2.1.trans KV.out) sp (OL.qx.new HQ.out.1)
        have mb := (HQ.out.2.2.1.kp KV.out).sp sp HQ.out.2.2.2.1
        have b0 : vb.cell? ⟨H, 0, none⟩ = some (.int .i64 b) := sp.held e0 HH.out.1
        obtain ⟨w5, hdel, hM5, s5⟩ := mb.del hbok 0
        have x5 := OL.qx.sp xq s5 (fun t ht e => by simp at e; subst e; exact hMT' ht)
        have k5 : Kp w w5 := Sp.kp kb1 s5 (fun t ht => by simp at ht; subst ht; exact HMw.out)
        obtain ⟨c5, hc5⟩ : ∃ x, x = (if F b = true then c - 1 else c) := ⟨_, rfl⟩
        have sq5 := HQ.out.2.2.2.2.take b
        rw [← hc5] at hM5 sq5
        have hc5k : c5 ≤ k + 1 := by rw [hc5]; split <;> omega
        have H5 : Hid (QX w w5 q T' ⟨delL S.L b, S.m, S.c⟩ ∧ Kp w w5 ∧ MpB w5 M n c5 (fun j => if j = b then false else F j) (D.del (.int .i64 b)) ∧ M ∉ T' ∧ Sq ⟨delL S.L b, S.m, S.c⟩ (fun j => if j = b then false else F j) c5) := ⟨x5, k5, hM5, hMT', sq5⟩
        clear hTk xq sp nw hMT' kb1 mb hM5 s5 x5 k5 hc5 sq5 HQ HH e0 e1 e3
        go_wp2
        go_roundw
        case rel => first | exact ⟨k + 1, n, c5, T', ⟨delL S.L b, S.m, S.c⟩, _, _, by omega, by go_num, by omega, hc5k, by show S.c ≤ _; omega, H5⟩ | (repeat apply Exists.intro) <;> exact ⟨⟨k + 1, n, c5, T', ⟨delL S.L b, S.m, S.c⟩, _, _, by omega, by go_num, by omega, hc5k, by show S.c ≤ _; omega, H5⟩, rfl⟩
        case measure => simp [intOf]; omega
      | false =>
        obtain ⟨sx, esx⟩ : ∃ s, s = scS d false := ⟨_, rfl⟩
        have hs64 : sx.size = 64 := by rw [esx]; exact scS_size d
        have hSec : ∀ W, Calls Try.prog 14 #[.int .u8 (d : Int), .bool false] W fun e w' => e = .returned (.string sx) ∧ Kp W w' := fun W => by rw [esx]; exact sector_any d hd256 false W
        have cSc := fun X (k : Kp V X) => (hSec X).mono fun e X' (h : e = .returned (.string sx) ∧ Kp X X') => (⟨h.1, k.trans h.2⟩ : e = .returned (.string sx) ∧ Kp V X')
        have hS : ∀ X, Kp V X → X.cell? ⟨H, 0, none⟩ = some (.int .i64 b) ∧ X.cell? ⟨H, 1, none⟩ = some (.int .u8 (d : Int)) := fun X k => ⟨k.held e0, k.held e1⟩
        have hPt := fun X (k : Kp V X) => (qput_any (HQ.out.1.kept (KV.out.trans k)) HQ.out.2.2.2.2.g b sx).mono fun e X' (h : e = .returned (.int .i64 (ptE S b sx)) ∧ Nz QX w X X' q T (ptS S b sx)) => (⟨h.1, X, k, h.2⟩ : e = .returned (.int .i64 (ptE S b sx)) ∧ ∃ X0, Kp V X0 ∧ Nz QX w X0 X' q T (ptS S b sx))
        have hS2 : ∀ X', (∃ X0, Kp V X0 ∧ Nz QX w X0 X' q T (ptS S b sx)) → X'.cell? ⟨H, 0, none⟩ = some (.int .i64 b) ∧ X'.cell? ⟨H, 1, none⟩ = some (.int .u8 (d : Int)) := fun X' ⟨X0, k, T', _, s, _⟩ => ⟨s.held (k.held e0) HH.out.1, s.held (k.held e1) HH.out.1⟩
        have hr0 : Kp V V.drew := (Kp.refl V).drew
        clear esx hd256 kV
        go_upto_region 9 with fail
        go_region_held3 (fun X => X.cell? ⟨H, 0, none⟩ = some (.int .i64 b) ∧ X.cell? ⟨H, 1, none⟩ = some (.int .u8 (d : Int))) (first | exact hS _ (by assumption) | exact hS2 _ (by assumption)) (first
          | (go_at_call 14; refine (cSc _ (by assumption)).mono ?_; rintro e va ⟨rfl, ka⟩)
          | (go_at_call 13; refine (hPt _ (by assumption)).mono ?_; rintro e vb ⟨rfl, kb⟩))
        obtain ⟨X0, kX0, T', xq, sp, nw⟩ := kb
        have hMT' : M ∉ T' := fun h => by
          rcases nw M h with h1 | h1
          · exact HQ.out.2.2.2.1 h1
          · have := (HQ.out.2.2.1.kp (KV.out.trans kX0)).lt; omega
        have kb1 : Kp w vb := Sp.kp (HQ.out.2.1.trans (KV.out.trans kX0)) sp (OL.qx.new HQ.out.1)
        have mb := (HQ.out.2.2.1.kp (KV.out.trans kX0)).sp sp HQ.out.2.2.2.1
        have b0 : vb.cell? ⟨H, 0, none⟩ = some (.int .i64 b) := sp.held (kX0.held e0) HH.out.1
        clear cSc hPt hS hS2 nw hr0 e0 e1 e3
        by_cases he : ptE S b sx = 0
        · have sq5 := HQ.out.2.2.2.2.put he (by omega)
          obtain ⟨w5, D5, hup, hM5, s5⟩ := mb.put hbok (by omega)
          have x5 := OL.qx.sp xq s5 (fun t ht e => by simp at e; subst e; exact hMT' ht)
          have k5 : Kp w w5 := Sp.kp kb1 s5 (fun t ht => by simp at ht; subst ht; exact HMw.out)
          obtain ⟨c5, hc5⟩ : ∃ x, x = (if F b = true then c else c + 1) := ⟨_, rfl⟩
          rw [← hc5] at hM5 sq5
          have hc5k : c5 ≤ k + 1 := by rw [hc5]; split <;> omega
          have hS5 : (ptS S b sx).c ≤ ((k + 1 : Nat) : Int) := by have := (pt_c S b sx).1; omega
          have H5 : Hid (QX w w5 q T' (ptS S b sx) ∧ Kp w w5 ∧ MpB w5 M (n + 1) c5 (fun j => if j = b then true else F j) D5 ∧ M ∉ T' ∧ Sq (ptS S b sx) (fun j => if j = b then true else F j) c5) := ⟨x5, k5, hM5, hMT', sq5⟩
          rw [he]
          clear xq sp hMT' kb1 mb hM5 s5 x5 k5 hc5 sq5 HQ HH he kX0
          go_wp2
          go_roundw
          case rel => first | exact ⟨k + 1, n + 1, c5, T', ptS S b sx, _, D5, by omega, by go_num, by omega, hc5k, hS5, H5⟩ | (repeat apply Exists.intro) <;> exact ⟨⟨k + 1, n + 1, c5, T', ptS S b sx, _, D5, by omega, by go_num, by omega, hc5k, hS5, H5⟩, rfl⟩
          case measure => simp [intOf]; omega
        · have hSS : ptS S b sx = S := pt_no he
          have H5 : Hid (QX w vb q T' S ∧ Kp w vb ∧ MpB vb M n c F D ∧ M ∉ T' ∧ Sq S F c) := ⟨by rw [← hSS]; exact xq, kb1, mb, hMT', HQ.out.2.2.2.2⟩
          obtain ⟨ee, hee⟩ : ∃ ee, ee = ptE S b sx := ⟨_, rfl⟩
          rw [← hee] at he ⊢
          have he2 : (ee == 0) = false := by simpa using he
          clear hee hSS xq sp hMT' kb1 mb HQ HH b0 kX0
          go_wp2
          go_roundw
          case rel => first | exact ⟨k + 1, n, c, T', S, F, D, by omega, by go_num, by omega, by omega, by omega, H5⟩ | (repeat apply Exists.intro) <;> exact ⟨⟨k + 1, n, c, T', S, F, D, by omega, by go_num, by omega, by omega, by omega, H5⟩, rfl⟩
          case measure => simp [intOf]; omega
    · rename World => U1
      have hSp := qspans_any HQ.out.1 HQ.out.2.2.2.2.g.sr (by rw [HQ.out.2.2.2.2.n]; omega) HQ.out.2.2.2.2.r
      clear hSk
      go_wp2_with fail
      refine hSp.mono ?_; rintro e y1 ⟨v, J, rfl, j1, j2, j3, j4, j5⟩
      clear hSp
      obtain ⟨xq, kq, mq, hmt, sq⟩ := HQ.out
      have x1 := xq.kept j5
      have m1 := mq.kp j5
      have hgl : gL J = true := (gB_iff J (-1) (by omega)).2 ⟨j2.nb, j2.hi⟩
      have htot : totI J = (c : Int) := by unfold totI; rw [if_pos hgl, j4, sq.n]
      have hJl : J.length ≤ 1000 := by
        have h1 := len_tot J _ j2.nb
        rw [j4, sq.n] at h1
        omega
      have hhas : ∀ z, (gL J && hs J z) = F z := fun z => by rw [hgl, Bool.true_and, j3, sq.f]
      obtain ⟨ff, hff⟩ : ∃ ff, ff = F a1 := ⟨_, rfl⟩
      have hWk := fun p => qwakes_any (kpw y1 p)
      have hGo := fun p => good_any v J (kpw y1 p) (j1.kept (kpw_kp y1 p))
      rw [hgl] at hGo
      have hTo := fun p => total_any v J (kpw y1 p) (j1.kept (kpw_kp y1 p))
      rw [htot] at hTo
      have hLe := fun p => qlen_any (x1.kept (kpw_kp y1 p)) (by rw [sq.n]; omega)
      rw [sq.n] at hLe
      have hHa := fun p => has_any v J a1 hat (kpw y1 p) (j1.kept (kpw_kp y1 p)) hJl
      rw [hhas, ← hff] at hHa
      have hLk := fun p => (m1.kp (kpw_kp y1 p)).look (i := a1) hat
      rw [← hff] at hLk
      have hLn := fun p ty => (m1.kp (kpw_kp y1 p)).len ty
      have HR : Hid (SpIn y1 v J ∧ J.length ≤ 1000 ∧ (∀ z, (gL J && hs J z) = F z) ∧ MpB y1 M n c F D ∧ Kp w y1) := ⟨j1, hJl, hhas, m1, kq.trans j5⟩
      clear HQ j1 j2 j3 j4 j5 xq kq mq hmt sq x1 m1 hgl htot hJl hhas hff
      go_upto_region 13 with fail
      go_cut [9, 75] (fun a f wx => a = v ∧ f = .bool false ∧ Kp y1 wx)
      case first =>
        cases ff <;>
        · refine wp_region_kp (by kernel_rfl) (by kernel_rfl) ?_
          repeat (first
            | go_big_quiet_skip
            | (go_big_quiet_want; go_big_quiet_op; go_big_quiet_on)
            | (go_big_quiet_want; go_big_quiet_op; apply Exists.intro; refine ⟨fun p => ?_, ?_⟩; (focus (first
                | (go_at_call 10; with_reducible exact kp_call (hWk _))
                | (go_at_call 20; with_reducible exact kp_call (hGo _))
                | (go_at_call 21; with_reducible exact kp_call (hTo _))
                | (go_at_call 22; with_reducible exact kp_call (hLe _))
                | (go_at_call 23; with_reducible exact kp_call (hHa _)))); go_big_quiet_on))
          refine wpQuiet_nil ?_
          rintro w7 ⟨p, hp⟩
          have K7 : Kp y1 w7 := by rw [hp]; exact kpw_kp _ p
          clear hp
          go_wp2_with fail
          go_meet
          exact ⟨rfl, rfl, K7⟩
      case rest =>
      obtain ⟨rfl, rfl, k2⟩ := hcut
      rename World => y2
      obtain ⟨j1, hJl, hhas, m1, kw1⟩ := HR.out
      have m2 := m1.kp k2
      have HR2 : Hid (SpIn y2 u9 J ∧ J.length ≤ 1000 ∧ (∀ z, (gL J && hs J z) = F z) ∧ MpB y2 M n c F D ∧ Kp w y2) := ⟨j1.kept k2, hJl, hhas, m2, kw1.trans k2⟩
      have hown := m2.own
      clear hWk hGo hTo hLe hHa hLk hLn HR j1 hJl hhas m1 kw1 m2 k2
      go_wp2_with (at_range; refine wpList_range_own _ rfl _ 49 rfl 3 4 int_key Try.underlying49 _ M n D rfl hown ?_; intro wi hrg0 hg0 hs0)
      go_frame
      have hKi : Kp y2 wi := by
        refine ⟨hg0.os, hg0.tape, hg0.output, hg0.size, fun k hk => hg0.block k hk (by simp)⟩
      have H0 : Hid (wi.ranges Try.prog 3 (plainElem Try.prog 4) M y2.heap.size n D (Maps.has D) (Maps.size D) ∧ (∀ kl, Maps.has D kl = true → Maps.has D kl = true) ∧ Kp y2 wi) := ⟨hrg0, fun _ h => h, hKi⟩
      clear hrg0 hg0 hs0 hKi hown
      go_loopw [10] (fun _ wr => ∃ (left : Lit → Bool) (cnt : Nat), Hid (wr.ranges Try.prog 3 (plainElem Try.prog 4) M y2.heap.size n D left cnt ∧ (∀ kl, left kl = true → Maps.has D kl = true) ∧ Kp y2 wr)) (fun _ wr => wr.rangeLeft M y2.heap.size)
      case atStart => exact ⟨_, _, H0⟩
      case round =>
        clear H0
        obtain ⟨left, cnt, HL⟩ := hrel
        rename World => wo
        go_wp2_with (at_next; refine wpList_next_ranges _ rfl _ rfl 3 int_key (plainElem Try.prog 4) (Value.int .i64) Value.bool (fun key kl hkey => by obtain ⟨x, rfl, _⟩ := Maps.keyOf_int_inv Try.underlying3 hkey; exact ⟨x, rfl⟩) (fun v y hv => by obtain ⟨c, rfl, _⟩ := elem_bool hv; exact ⟨c, rfl⟩) M y2.heap.size n D left cnt rfl HL.out.1 ?_ ?_)
        · intro h0 hl0
          have HE : Hid (Kp w wo) := HR2.out.2.2.2.2.trans HL.out.2.2
          clear HL h0 hl0
          go_wp2
          go_ret
          exact ⟨rfl, HE.out⟩
        · intro x
          refine ⟨?_, ?_⟩
          all_goals
            intro kl da db w1 cnt1 hkey hlk hv hat2 hrg1 hlt2 hg1 hs1 hen
            obtain ⟨x', ex, rfl, hwx⟩ := Maps.keyOf_int_inv Try.underlying3 hkey
            obtain rfl : x = x' := by cases ex; rfl
            have hxok : iOk x := wf_le hwx
            have k1 : Kp y2 w1 := HL.out.2.2.grown hg1 (fun j hj => by cases hj; exact Nat.le_refl _)
            have hFx : F x = true := by rw [← (HR2.out.2.2.2.1.at_ x hxok).1]; exact HL.out.2.1 _ hlk
            have hH := has_any u9 J x hxok w1 (HR2.out.1.kept k1) HR2.out.2.1
            rw [HR2.out.2.2.1, hFx] at hH
            have HL1 : Hid (w1.ranges Try.prog 3 (plainElem Try.prog 4) M y2.heap.size n D (fun z => left z && !z.sameKey (.int .i64 x)) cnt1 ∧ (∀ kl, (left kl && !kl.sameKey (.int .i64 x)) = true → Maps.has D kl = true) ∧ Kp y2 w1) := ⟨hrg1, fun kl h => HL.out.2.1 kl (by rw [Bool.and_eq_true] at h; exact h.1), k1⟩
            have HM : Hid (wo.rangeLeft M y2.heap.size = cnt ∧ cnt1 < cnt) := ⟨HL.out.1.left_eq, hlt2⟩
            clear hkey hlk hv hat2 hrg1 hlt2 hg1 hs1 ex hFx k1 HL
            go_wp2_with fail
            refine hH.mono ?_; rintro e w2 ⟨rfl, k2⟩
            have HL2 : Hid (w2.ranges Try.prog 3 (plainElem Try.prog 4) M y2.heap.size n D (fun z => left z && !z.sameKey (.int .i64 x)) cnt1 ∧ (∀ kl, (left kl && !kl.sameKey (.int .i64 x)) = true → Maps.has D kl = true) ∧ Kp y2 w2) := by
              refine ⟨HL1.out.1.kept (row := none) ⟨k2.os, k2.tape, k2.output, k2.size, fun i hi _ => k2.block i hi⟩ (by simp) (by simp), HL1.out.2.1, HL1.out.2.2.trans k2⟩
            clear hH k2 HL1 hen
            go_wp2
            go_roundw
            case rel => first | exact ⟨_, _, HL2⟩ | (repeat apply Exists.intro) <;> exact ⟨⟨_, _, HL2⟩, rfl⟩
            case measure => rw [HL2.out.1.left_eq, HM.out.1]; exact HM.out.2

set_option maxRecDepth 100000 in
theorem lifted (os : Os) (started : os.Started) (H : Type) (enc : TypeId × Value → H) :
    ReturnsInHanded {} Try.checked os 4 .any (Rows.queueSpansSpec.pre6 enc Try.prog Try.f4 Rows.queueSpansRow.domain false) (Rows.queueSpansSpec.post enc Try.prog Try.f4 false true false false) := by
  refine returnsInHanded_of_change (C := Try.checked) own started (by kernel_rfl) Try.func4
    (ChangeSpec.witness6 (enc := enc) (C := Try.checked) false ⟨#[], #[.slice none 0 0, .int .i64 0], []⟩ 8 (by kernel_rfl) (by kernel_rfl) (by kernel_rfl) (by kernel_rfl)) ?_
  intro W base args ds gs before hval0 hW hcnd _
  have hval : ∀ (j : Nat) t v, Try.f4.params[j]? = some t → args[j]? = some v → Value.okWide Try.prog W .any base t v := hval0
  have hW' := hW
  have hlt := hW.lt
  obtain ⟨p, q, hA0, hV, rfl, hfz, hnd⟩ := hW
  have hA : DataW.TrodAll enc Try.prog W 0 (fun _ => true) true Try.f4.params.toList args.toList ds p := hA0
  have hAk := hA
  rw [Try.params4] at hA hval
  obtain ⟨v0, vs0, d0, ds0, p0, q0, hargs, rfl, rfl, h0, r0⟩ := trodAll_cons hA
  obtain ⟨v1, vs1, d1, ds1, p1, q1, rfl, rfl, rfl, h1, r1⟩ := trodAll_cons r0
  obtain ⟨rfl, rfl, rfl⟩ := trodAll_nil r1
  obtain rfl : args = #[v0, v1] := by cases args; simp_all
  obtain ⟨rfl, rfl⟩ := trodVars_none hV
  obtain ⟨l0, w0⟩ := open_as20 (hval 0 22 v0 rfl rfl) h0
  obtain ⟨a1, rfl, rfl, rfl, w1⟩ := open_int Try.underlying3 (hval 1 3 v1 rfl rfl) h1
  clear hA0 hval0
  simp only [List.append_nil] at hW' hAk hlt
  refine (walk W v0 l0 a1 w0 w1).mono fun e W' ⟨he, hg⟩ => ?_
  subst he
  exact ⟨_, rfl, post_kp (pv := []) hW' (fun _ _ _ => (trodAll_cons_mk (shut_bool Try.underlying4 _) trodAll_mk0)) (fun sp hsp => trodAll_stays laidOut (by rw [Try.params4]; exact of_decide_eq_true (by kernel_rfl)) hAk (fun x hx => Below.same hg (hlt x hx)) hsp) (fun _ _ => rfl) (by simp) hg⟩

theorem over : Rows.queueSpansRow.holds Try.pinned (OpenSpec.ofChange Rows.queueSpansSpec) :=
  OpenClaim.holds_of_wide 4 Try.f4 rfl rfl rfl rfl rfl rfl rfl ⟨rfl, rfl, rfl, rfl, rfl⟩ rfl rfl rfl rfl rfl (by kernel_rfl) Try.func4 (by kernel_rfl)
    (of_decide_eq_true (by kernel_rfl)) (by unfold Func.isWrapper; first | (rw [if_pos (by decide +kernel)]; kernel_rfl) | (rw [if_neg (by decide +kernel)]; exact ⟨rfl, rfl⟩))
    (fun os started H enc _ => lifted os started H enc)

end Go.Proofs.Ytdfdoinhkjoalaa.queueSpans
namespace Go.Proofs.Ytdfdoinhkjoalaa
theorem queueSpans_holds : Rows.QueueSpansSaid := queueSpans.over
end Go.Proofs.Ytdfdoinhkjoalaa
