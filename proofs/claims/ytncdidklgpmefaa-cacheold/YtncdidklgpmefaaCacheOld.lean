/-
  CacheOld: for every input the law answers true, and its arguments read as before. No condition.
-/
import Derived.Test.YtncdidklgpmefaaRows
import Derived.Test.YtncdidklgpmefaaBufArgs
import Derived.Test.YtncdidklgpmefaaCaLaw
import Derived.WalkKit
import Derived.ProofKit
import Derived.OpenShut
import Derived.ShutString
import Derived.Deep.QuietTactic
import Derived.BigQuiet
import Derived.Deep.RegionWith
import Derived.Deep.RegionHeld3
import Derived.Deep.DeepCutAuto
import Derived.Deep.CutBlock
namespace Go.Proofs.Ytncdidklgpmefaa.cacheOld
open Go.ChangeShapes Go.WideShapes Go.ChangeAt Go.RowKit
open Go.ChangeMaps (open_string shut_string)
open Go.Proofs.Ytncdidklgpmefaa Plain
set_option linter.unusedVariables false

theorem own : ownKnob Try.prog.godebug = none := by kernel_rfl
theorem laidOut : laidOutB Try.prog = true := by kernel_rfl
theorem cellsI : Try.prog.cellsOf 3 = 1 := by kernel_rfl
theorem cellsJ : Try.prog.cellsOf 37 = 2 := by kernel_rfl
/-- how the cache stands to what the law keeps. -/
structure Od (C : CS) (t k : Int) (o n : ByteArray) (d : Bool) : Prop where
  M : C.S.M = 4
  W : C.W = 6
  ks : ∀ x ∈ C.S.P ++ C.S.D, x = t
  o : (C.H t).o k = o
  n : (C.H t).n k = n
  d : (C.H t).d k = d
theorem Od.new (t k : Int) : Od (newC 4 2 6) t k noS noS false := ⟨rfl, rfl, fun x h => by simp [newC, newT] at h, rfl, rfl, rfl⟩
theorem one_key {l : List Int} {t : Int} (hn : l.Nodup) (h : ∀ x ∈ l, x = t) : l.length ≤ 1 := by
  match l, hn, h with
  | [], _, _ => simp
  | [a], _, _ => simp
  | a :: b :: r, hn, h =>
    have h1 := h a (by simp)
    have h2 := h b (by simp)
    rw [h1, h2] at hn
    simp at hn
theorem Od.use {C : CS} {t k : Int} {o n : ByteArray} {d : Bool} (h : Od C t k o n d) (hg : Gd C.S) : usE C t = 0 := by
  have := one_key hg.nd h.ks
  rw [List.length_append] at this
  refine usE_ok ?_
  rw [h.M]
  omega
theorem Od.pt {C : CS} {t k : Int} {o n : ByteArray} {d : Bool} (h : Od C t k o n d) (hg : Gd C.S) (ht : 0 ≤ t ∧ t < 64) (hk : 0 ≤ k ∧ k < 6) {s : ByteArray} (hs : s.size = 64) : ptE C t k s.size = 0 := pt_zero ht (by rw [h.W]; exact hk) hs (h.use hg)
theorem us_keys {C : CS} (hg : Gd C.S) {k : Int} (x : Int) (hx : x ∈ (usC C k).S.P ++ (usC C k).S.D) : x = k ∨ x ∈ C.S.P ++ C.S.D := by
  unfold usC at hx
  cases hi : inT C.S k with
  | true =>
    rw [hi, if_pos rfl] at hx
    exact .inr ((to_perm hg k).mem_iff.1 hx)
  | false =>
    rw [hi, if_neg (by decide)] at hx
    split at hx
    · rename_i he
      rcases (ad_keys (pl_add hg hi he) x).1 hx with e | e
      · exact .inl e
      · refine .inr ?_
        unfold plC at e
        split at e
        · split at e
          · exact e
          · rename_i v hv
            exact ((dr_keys hg (vc_in hv).1 x).1 e).1
        · exact e
    · exact .inr hx
theorem Od.put {C : CS} {t k : Int} {o n : ByteArray} {d : Bool} (h : Od C t k o n d) (hg : Gd C.S) {s : ByteArray} (he : ptE C t k s.size = 0) : Od (ptC C t k s) t k o s true := by
  have hH := pt_H he
  refine ⟨(pt_M _ _ _ _).1.trans h.M, (pt_M _ _ _ _).2.trans h.W, fun x hx => ?_, ?_, ?_, ?_⟩
  · unfold ptC at hx
    rw [if_pos he] at hx
    rcases us_keys hg x ((pn_perm _ _ _).mem_iff.1 hx) with e | e
    · exact e
    · exact h.ks x e
  · rw [hH]; exact h.o
  · rw [hH]; exact upS_at _ _ _
  · rw [hH]; exact if_pos rfl
theorem Od.fill {C : CS} {t k : Int} {o n : ByteArray} {d : Bool} (h : Od C t k o n d) (hg : Gd C.S) {s : ByteArray} (he : ptE C t k s.size = 0) : Od (flC C t k s) t k s (if d then n else s) d := by
  have hH := fl_H he
  refine ⟨(fl_M _ _ _ _).1.trans h.M, (fl_M _ _ _ _).2.trans h.W, fun x hx => ?_, ?_, ?_, ?_⟩
  · unfold flC at hx
    rw [if_pos he] at hx
    rcases us_keys hg x hx with e | e
    · exact e
    · exact h.ks x e
  · rw [hH]; exact upS_at _ _ _
  · rw [hH]
    show (if (C.H t).d k then (C.H t).n else upS (C.H t).n k s) k = _
    rw [h.d]
    cases d
    · exact upS_at _ _ _
    · exact h.n
  · rw [hH]; exact h.d
theorem Od.done {C : CS} {t k : Int} {o n : ByteArray} {d : Bool} (h : Od C t k o n d) (hin : inT C.S t = true) : Od (dnC C t) t k n n false := by
  have hH := dn_H hin
  refine ⟨(dn_M _ _).1.trans h.M, (dn_M _ _).2.trans h.W, fun x hx => ?_, ?_, ?_, ?_⟩
  · unfold dnC at hx
    rw [if_pos hin] at hx
    exact h.ks x ((pn_perm _ _ _).mem_iff.1 hx)
  · rw [hH]; exact h.n
  · rw [hH]; exact h.n
  · rw [hH]; rfl
theorem Od.get {C : CS} {t k : Int} {o n : ByteArray} {d : Bool} (h : Od C t k o n d) (hg : Gd C.S) : Od (gtC C t k) t k o n d := by
  have hH := gt_H C t k
  exact ⟨(gt_M _ _ _).1.trans h.M, (gt_M _ _ _).2.trans h.W, fun x hx => h.ks x ((gt_keys hg t k).mem_iff.1 hx), by rw [hH]; exact h.o, by rw [hH]; exact h.n, by rw [hH]; exact h.d⟩
set_option maxRecDepth 100000 in
set_option maxHeartbeats 8000000 in
theorem walk (w : World) (a0 b0 : Int) (a1 : Value) (l1 : List A4c) (w0 : (Lit.int .i64 a0).wf = true) (x0 : (Lit.int .i64 b0).wf = true) (w1 : Acts w a1 l1) :
    Calls Try.prog 4 #[.agg #[.int .i64 a0, .int .i64 b0], a1] w fun e w' => e = .returned (.bool true) ∧ Kp w w' := by
  clear w0 x0
  obtain ⟨ma, hma⟩ : ∃ m, m = max 0 a0 := ⟨_, rfl⟩
  have hmax : ∀ ts t W, (Builtin.max_ ts t #[.int .i64 0, .int .i64 a0]).run Try.prog W = .ok (.int .i64 ma) W := fun ts t W => by rw [hma]; exact imax ts t 0 a0 W
  obtain ⟨mb, hmb⟩ : ∃ m, m = max 0 b0 := ⟨_, rfl⟩
  have hmay : ∀ ts t W, (Builtin.max_ ts t #[.int .i64 0, .int .i64 b0]).run Try.prog W = .ok (.int .i64 mb) W := fun ts t W => by rw [hmb]; exact imax ts t 0 b0 W
  obtain ⟨t, ht⟩ : ∃ t : Int, t = ma % 64 := ⟨_, rfl⟩
  have htm : ma.tmod 64 = t := by rw [Int.tmod_eq_emod_of_nonneg (by omega), ht]
  obtain ⟨kk, hkk⟩ : ∃ t : Int, t = mb % 6 := ⟨_, rfl⟩
  have hkm : mb.tmod 6 = kk := by rw [Int.tmod_eq_emod_of_nonneg (by omega), hkk]
  have HT : Hid ((0 ≤ t ∧ t < 64) ∧ (0 ≤ kk ∧ kk < 6) ∧ iOk t) := ⟨by omega, by omega, by unfold iOk; omega⟩
  obtain ⟨pa, pg, po, pc, ln, rfl, hp1, hp2, hpa, hpc⟩ := w1.open
  have HPC := hid hpc
  obtain ⟨kq, ekk⟩ : ∃ k, k = min ln 60 := ⟨_, rfl⟩
  have hmin : ∀ ts t W, (Builtin.min_ ts t #[.int .i64 (ln : Int), .int .i64 60]).run Try.prog W = .ok (.int .i64 (kq : Int)) W := fun ts t W => by
    rw [imin ts t _ _ W]
    congr 2
    omega
  have hk1 : kq ≤ ln := by omega
  have hk60 : kq ≤ 60 := by omega
  obtain ⟨W, hW⟩ : ∃ W, W = w.alloc (.cells #[.int .i64 a0, .int .i64 b0] 37) := ⟨_, rfl⟩
  obtain ⟨H, hH⟩ : ∃ H, H = w.heap.size := ⟨_, rfl⟩
  have hB : W.heap[H]? = some (.cells #[.int .i64 a0, .int .i64 b0] 37 (0, 0)) := by rw [hW, hH]; exact new_obj _ _ _
  have e0 := cell_of hB 0
  have e1 := cell_of hB 1
  have HW : Hid (W = w.alloc (.cells #[.int .i64 a0, .int .i64 b0] 37) ∧ H = w.heap.size) := ⟨hW, hH⟩
  have HK : Hid (Kp w W) := by rw [hW]; exact (Kp.refl w).alloc _
  have hN := cnew_ok (m := 4) (z := 2) (d := 6) ⟨by omega, by omega, by omega, by omega⟩ (by omega) (by omega) W
  clear hpc ekk hma hmb ht hkk hW hH hB w1
  go_enter Try.func4, Try.ntmps4
  go_upto_region 1 with fail
  rw [← HW.out.1, ← HW.out.2]
  clear HW
  go_wp2_with fail
  refine hN.mono ?_; rintro e w1 ⟨c, rfl, u1⟩
  have e0 := u1.k.held e0
  have e1 := u1.k.held e1
  have HU := hid u1
  clear hN u1
  go_upto_region 2 with fail
  go_quiet (fail)
  rename_i nq
  obtain ⟨w2, hw2⟩ : ∃ z, z = w1.drewN nq := ⟨_, rfl⟩
  have k2 : Kp w1 w2 := by rw [hw2]; exact (Kp.refl w1).drewN nq
  rw [← hw2]
  have HU2 := hid (HU.out.kp k2).1
  clear hw2 k2 e0 e1 htm hkm hmax hmay HU
  go_wp2_with fail
  refine (wakes_any _).mono ?_; rintro e w3 ⟨rfl, k3⟩
  have HU3 : Hid (Ca w w3 c 0 (newC 4 2 6) []) := (HU2.out.kp k3).1.base HK.out
  clear k3 HU2
  go_upto_region 6 with fail
  go_cut [41, 42, 43] (fun p qq i wx => ∃ a', p = .slice a' kq pc ∧ qq = .int .i64 (kq : Int) ∧ i = .int .i64 ((0 : Nat) : Int) ∧ (0 < kq → a' = some ⟨pg, po, none⟩) ∧ w3 = wx)
  case first =>
    by_cases h0 : 0 < ln
    · obtain rfl := hpa h0
      go_wp2_with fail
      go_meet
      exact ⟨_, rfl, rfl, rfl, fun _ => rfl, rfl⟩
    · have hn0 : ln = 0 := by omega
      subst hn0
      obtain rfl : kq = 0 := by omega
      cases pa with
      | none =>
        go_wp2_with fail
        go_meet
        exact ⟨_, rfl, rfl, rfl, fun h => absurd h (by omega), rfl⟩
      | some ad =>
        go_wp2_with fail
        go_meet
        exact ⟨_, rfl, rfl, rfl, fun h => absurd h (by omega), rfl⟩
  case rest =>
  obtain ⟨a', rfl, rfl, rfl, ha', rfl⟩ := hcut
  have H0 : Hid (Ca w w3 c 0 (newC 4 2 6) [] ∧ Od (newC 4 2 6) t kk noS noS false) := ⟨HU3.out, Od.new t kk⟩
  clear hmin hpa HU3 HK
  go_wp2_with fail
  go_loopw [9, 10, 11, 13, 14, 15, 16, 17, 18, 43] (fun so sn sd _ _ _ _ _ _ i wr => ∃ (k : Nat) (o n : ByteArray) (d : Bool) (C : CS), k ≤ kq ∧ so = .string o ∧ sn = .string n ∧ sd = .bool d ∧ i = .int .i64 k ∧ Hid (Ca w wr c k C [] ∧ Od C t kk o n d)) (fun _ _ _ _ _ _ _ _ _ i _ => kq - (intOf i).toNat)
  case atStart => exact ⟨0, noS, noS, false, newC 4 2 6, by omega, by go_num, by go_num, by go_num, by go_num, H0⟩
  case round =>
    clear H0
    obtain ⟨k, o, n, d, C, hk, rfl, rfl, rfl, rfl, HQ⟩ := hrel
    rename World => wr
    by_cases hlt : k < kq
    · obtain rfl := ha' (by omega)
      obtain ⟨⟨c0, c1, c2, c3, c4⟩, hok⟩ := HPC.out wr HQ.out.1.k k (by omega)
      obtain ⟨dd, hdd⟩ : ∃ z, z = (l1.getD k noA).d := ⟨_, rfl⟩
      obtain ⟨ky, hky⟩ : ∃ z, z = (l1.getD k noA).k := ⟨_, rfl⟩
      obtain ⟨kc, hkc⟩ : ∃ z, z = (l1.getD k noA).c := ⟨_, rfl⟩
      obtain ⟨bb, hbb⟩ : ∃ z, z = (l1.getD k noA).b := ⟨_, rfl⟩
      obtain ⟨oo, hoo⟩ : ∃ z, z = (l1.getD k noA).o := ⟨_, rfl⟩
      have hb256 : bb < 256 := by rw [hbb]; exact hok.b
      rw [← hdd] at c0
      rw [← hky] at c1
      rw [← hkc] at c2
      rw [← hbb] at c3
      rw [← hoo] at c4
      obtain ⟨V, hV⟩ : ∃ V, V = wr.alloc (.cells #[.int .i64 dd, .int .i64 ky, .int .i64 kc, .int .u8 (bb : Int), .bool oo] 31) := ⟨_, rfl⟩
      obtain ⟨H2, hH2⟩ : ∃ H, H = wr.heap.size := ⟨_, rfl⟩
      have e0 : V.cell? ⟨H2, 0, none⟩ = some (.int .i64 dd) := by rw [hV, hH2, World.cell?_alloc_at _ _ _ _ rfl]; rfl
      have e3 : V.cell? ⟨H2, 3, none⟩ = some (.int .u8 (bb : Int)) := by rw [hV, hH2, World.cell?_alloc_at _ _ _ _ rfl]; rfl
      have kV : Kp wr V := by rw [hV]; exact (Kp.refl wr).alloc _
      have HV : Hid (V = wr.alloc (.cells #[.int .i64 dd, .int .i64 ky, .int .i64 kc, .int .u8 (bb : Int), .bool oo] 31) ∧ H2 = wr.heap.size) := ⟨hV, hH2⟩
      have HX : Hid (Ca w V c k C [] ∧ Od C t kk o n d) := ⟨(HQ.out.1.kp kV).1, HQ.out.2⟩
      have hS := sector_any bb hb256 false V
      clear hdd hky hkc hbb hoo hV hH2 kV HQ hok
      go_upto_region 9 with fail
      rw [← HV.out.1, ← HV.out.2]
      clear HV c0 c1 c2 c3 c4
      obtain ⟨s, hs⟩ : ∃ s, s = scS bb false := ⟨_, rfl⟩
      rw [← hs] at hS
      have HSz : Hid (s.size = 64) := by show s.size = 64; rw [hs]; exact scS_size _
      go_wp2_with fail
      refine hS.mono ?_; rintro e V2 ⟨rfl, kS⟩
      have e0 := kS.held e0
      have HX2 : Hid (Ca w V2 c k C [] ∧ Od C t kk o n d) := ⟨(HX.out.1.kp kS).1, HX.out.2⟩
      clear hS hs kS e3 HX hb256
      have hm3 := mask3 dd
      obtain ⟨m, hm⟩ : ∃ m, m = dd % 4 := ⟨_, rfl⟩
      rw [← hm] at hm3
      have hmm : (m = 0 ∨ m = 1) ∨ m = 2 ∨ m = 3 := by omega
      clear hm
      have HPT : Hid (ptE C t kk s.size = 0) := HX2.out.2.pt HX2.out.1.g HT.out.1 HT.out.2.1 HSz.out
      rcases hmm with hmm | rfl | rfl
      · have hC := cput HX2.out.1 (by omega) t kk s
        rw [HPT.out] at hC
        rcases hmm with rfl | rfl
        · go_wp2_with fail
          refine hC.mono ?_; rintro e v1 ⟨rfl, u1, _⟩
          have HY : Hid (Ca w v1 c (k + 1) (ptC C t kk s) [] ∧ Od (ptC C t kk s) t kk o s true) := ⟨u1, HX2.out.2.put HX2.out.1.g HPT.out⟩
          clear hC u1 HX2 HPT
          have hO := cold HY.out.1 HT.out.2.2 kk
          rw [HY.out.2.o] at hO
          go_wp2_with fail
          refine hO.mono ?_; rintro e v2 ⟨rfl, k2⟩
          have HY2 : Hid (Ca w v2 c (k + 1) (ptC C t kk s) [] ∧ Od (ptC C t kk s) t kk (o) (s) true) := ⟨(HY.out.1.kp k2).1, HY.out.2⟩
          have hG := cget HY2.out.1 HT.out.2.2 kk
          rw [HY2.out.2.n] at hG
          clear hO k2 HY
          go_wp2_with fail
          refine hG.mono ?_; rintro e v3 ⟨rfl, u3, _⟩
          have HY3 : Hid (Ca w v3 c (k + 1) (gtC (ptC C t kk s) t kk) [] ∧ Od (gtC (ptC C t kk s) t kk) t kk (o) (s) true) := ⟨u3, HY2.out.2.get HY2.out.1.g⟩
          clear hG u3 HY2
          have hoe := no_ne (o)
          have hne := no_ne (s)
          go_wp2
          go_roundw
          case rel => exact ⟨k + 1, o, s, true, gtC (ptC C t kk s) t kk, by omega, rfl, rfl, rfl, by go_num, HY3⟩
          case measure => simp [intOf]; omega
        · go_wp2_with fail
          refine hC.mono ?_; rintro e v1 ⟨rfl, u1, _⟩
          have HY : Hid (Ca w v1 c (k + 1) (ptC C t kk s) [] ∧ Od (ptC C t kk s) t kk o s true) := ⟨u1, HX2.out.2.put HX2.out.1.g HPT.out⟩
          clear hC u1 HX2 HPT
          have hO := cold HY.out.1 HT.out.2.2 kk
          rw [HY.out.2.o] at hO
          go_wp2_with fail
          refine hO.mono ?_; rintro e v2 ⟨rfl, k2⟩
          have HY2 : Hid (Ca w v2 c (k + 1) (ptC C t kk s) [] ∧ Od (ptC C t kk s) t kk (o) (s) true) := ⟨(HY.out.1.kp k2).1, HY.out.2⟩
          have hG := cget HY2.out.1 HT.out.2.2 kk
          rw [HY2.out.2.n] at hG
          clear hO k2 HY
          go_wp2_with fail
          refine hG.mono ?_; rintro e v3 ⟨rfl, u3, _⟩
          have HY3 : Hid (Ca w v3 c (k + 1) (gtC (ptC C t kk s) t kk) [] ∧ Od (gtC (ptC C t kk s) t kk) t kk (o) (s) true) := ⟨u3, HY2.out.2.get HY2.out.1.g⟩
          clear hG u3 HY2
          have hoe := no_ne (o)
          have hne := no_ne (s)
          go_wp2
          go_roundw
          case rel => exact ⟨k + 1, o, s, true, gtC (ptC C t kk s) t kk, by omega, rfl, rfl, rfl, by go_num, HY3⟩
          case measure => simp [intOf]; omega
      · have hC := cfill HX2.out.1 (by omega) t kk s
        rw [HPT.out] at hC
        cases d with
        | true =>
          go_wp2_with fail
          refine hC.mono ?_; rintro e v1 ⟨rfl, u1, _⟩
          have HY : Hid (Ca w v1 c (k + 1) (flC C t kk s) [] ∧ Od (flC C t kk s) t kk s n true) := ⟨u1, HX2.out.2.fill HX2.out.1.g HPT.out⟩
          clear hC u1 HX2 HPT
          have hO := cold HY.out.1 HT.out.2.2 kk
          rw [HY.out.2.o] at hO
          go_wp2_with fail
          refine hO.mono ?_; rintro e v2 ⟨rfl, k2⟩
          have HY2 : Hid (Ca w v2 c (k + 1) (flC C t kk s) [] ∧ Od (flC C t kk s) t kk (s) (n) true) := ⟨(HY.out.1.kp k2).1, HY.out.2⟩
          have hG := cget HY2.out.1 HT.out.2.2 kk
          rw [HY2.out.2.n] at hG
          clear hO k2 HY
          go_wp2_with fail
          refine hG.mono ?_; rintro e v3 ⟨rfl, u3, _⟩
          have HY3 : Hid (Ca w v3 c (k + 1) (gtC (flC C t kk s) t kk) [] ∧ Od (gtC (flC C t kk s) t kk) t kk (s) (n) true) := ⟨u3, HY2.out.2.get HY2.out.1.g⟩
          clear hG u3 HY2
          have hoe := no_ne (s)
          have hne := no_ne (n)
          go_wp2
          go_roundw
          case rel => exact ⟨k + 1, s, n, true, gtC (flC C t kk s) t kk, by omega, rfl, rfl, rfl, by go_num, HY3⟩
          case measure => simp [intOf]; omega
        | false =>
          go_wp2_with fail
          refine hC.mono ?_; rintro e v1 ⟨rfl, u1, _⟩
          have HY : Hid (Ca w v1 c (k + 1) (flC C t kk s) [] ∧ Od (flC C t kk s) t kk s s false) := ⟨u1, HX2.out.2.fill HX2.out.1.g HPT.out⟩
          clear hC u1 HX2 HPT
          have hO := cold HY.out.1 HT.out.2.2 kk
          rw [HY.out.2.o] at hO
          go_wp2_with fail
          refine hO.mono ?_; rintro e v2 ⟨rfl, k2⟩
          have HY2 : Hid (Ca w v2 c (k + 1) (flC C t kk s) [] ∧ Od (flC C t kk s) t kk (s) (s) false) := ⟨(HY.out.1.kp k2).1, HY.out.2⟩
          have hG := cget HY2.out.1 HT.out.2.2 kk
          rw [HY2.out.2.n] at hG
          clear hO k2 HY
          go_wp2_with fail
          refine hG.mono ?_; rintro e v3 ⟨rfl, u3, _⟩
          have HY3 : Hid (Ca w v3 c (k + 1) (gtC (flC C t kk s) t kk) [] ∧ Od (gtC (flC C t kk s) t kk) t kk (s) (s) false) := ⟨u3, HY2.out.2.get HY2.out.1.g⟩
          clear hG u3 HY2
          have hoe := no_ne (s)
          have hne := no_ne (s)
          go_wp2
          go_roundw
          case rel => exact ⟨k + 1, s, s, false, gtC (flC C t kk s) t kk, by omega, rfl, rfl, rfl, by go_num, HY3⟩
          case measure => simp [intOf]; omega
      · have hC := cdone HX2.out.1 (by omega) HT.out.2.2
        cases hin : inT C.S t with
        | true =>
          rw [hin] at hC
          have HI := hid hin
          clear hin
          go_wp2_with fail
          refine hC.mono ?_; rintro e v1 ⟨rfl, u1, _⟩
          have HY : Hid (Ca w v1 c (k + 1) (dnC C t) [] ∧ Od (dnC C t) t kk n n false) := ⟨u1, HX2.out.2.done HI.out⟩
          clear hC u1 HX2 HPT
          have hO := cold HY.out.1 HT.out.2.2 kk
          rw [HY.out.2.o] at hO
          go_wp2_with fail
          refine hO.mono ?_; rintro e v2 ⟨rfl, k2⟩
          have HY2 : Hid (Ca w v2 c (k + 1) (dnC C t) [] ∧ Od (dnC C t) t kk (n) (n) false) := ⟨(HY.out.1.kp k2).1, HY.out.2⟩
          have hG := cget HY2.out.1 HT.out.2.2 kk
          rw [HY2.out.2.n] at hG
          clear hO k2 HY
          go_wp2_with fail
          refine hG.mono ?_; rintro e v3 ⟨rfl, u3, _⟩
          have HY3 : Hid (Ca w v3 c (k + 1) (gtC (dnC C t) t kk) [] ∧ Od (gtC (dnC C t) t kk) t kk (n) (n) false) := ⟨u3, HY2.out.2.get HY2.out.1.g⟩
          clear hG u3 HY2
          have hoe := no_ne (n)
          have hne := no_ne (n)
          go_wp2
          go_roundw
          case rel => exact ⟨k + 1, n, n, false, gtC (dnC C t) t kk, by omega, rfl, rfl, rfl, by go_num, HY3⟩
          case measure => simp [intOf]; omega
        | false =>
          rw [hin] at hC
          have HI := hid hin
          clear hin
          go_wp2_with fail
          refine hC.mono ?_; rintro e v1 ⟨rfl, u1, _⟩
          have HY : Hid (Ca w v1 c (k + 1) (dnC C t) [] ∧ Od (dnC C t) t kk o n d) := ⟨u1, by rw [dn_no HI.out]; exact HX2.out.2⟩
          clear hC u1 HX2 HPT
          have hO := cold HY.out.1 HT.out.2.2 kk
          rw [HY.out.2.o] at hO
          go_wp2_with fail
          refine hO.mono ?_; rintro e v2 ⟨rfl, k2⟩
          have HY2 : Hid (Ca w v2 c (k + 1) (dnC C t) [] ∧ Od (dnC C t) t kk (o) (n) d) := ⟨(HY.out.1.kp k2).1, HY.out.2⟩
          have hG := cget HY2.out.1 HT.out.2.2 kk
          rw [HY2.out.2.n] at hG
          clear hO k2 HY
          go_wp2_with fail
          refine hG.mono ?_; rintro e v3 ⟨rfl, u3, _⟩
          have HY3 : Hid (Ca w v3 c (k + 1) (gtC (dnC C t) t kk) [] ∧ Od (gtC (dnC C t) t kk) t kk (o) (n) d) := ⟨u3, HY2.out.2.get HY2.out.1.g⟩
          clear hG u3 HY2
          have hoe := no_ne (o)
          have hne := no_ne (n)
          go_wp2
          go_roundw
          case rel => exact ⟨k + 1, o, n, d, gtC (dnC C t) t kk, by omega, rfl, rfl, rfl, by go_num, HY3⟩
          case measure => simp [intOf]; omega
    · obtain rfl : k = kq := by omega
      have HE := hid HQ.out.1.k
      clear HQ
      go_wp2
      go_ret
      exact ⟨rfl, HE.out⟩

set_option maxRecDepth 100000 in
theorem lifted (os : Os) (started : os.Started) (H : Type) (enc : TypeId × Value → H) :
    ReturnsInHanded {} Try.checked os 4 .any (Rows.cacheOldSpec.pre6 enc Try.prog Try.f4 Rows.cacheOldRow.domain false) (Rows.cacheOldSpec.post enc Try.prog Try.f4 false true false false) := by
  refine returnsInHanded_of_change (C := Try.checked) own started (by kernel_rfl) Try.func4
    (ChangeSpec.witness6 (enc := enc) (C := Try.checked) false ⟨#[], #[.agg #[.int .i64 0, .int .i64 0], .slice none 0 0], []⟩ 8 (by kernel_rfl) (by kernel_rfl) (by kernel_rfl) (by kernel_rfl)) ?_
  intro W base args ds gs before hval0 hW hcnd _
  have hval : ∀ (j : Nat) t v, Try.f4.params[j]? = some t → args[j]? = some v → Value.okWide Try.prog W .any base t v := hval0
  have hW' := hW
  have hlt := hW.lt
  obtain ⟨p, q, hA0, hV, rfl, hfz, hnd⟩ := hW
  have hA : DataW.TrodAll enc Try.prog W 0 (fun _ => true) true Try.f4.params.toList args.toList ds p := hA0
  have hAk := hA
  rw [Try.params4] at hA hval
  obtain ⟨v0, vs0, d0, ds0, p0, q0, hargs, rfl, rfl, h0, r0⟩ := trodAll_cons hA
  obtain ⟨v1, vs1, d1, ds1, p1, q1, rfl, rfl, rfl, h1, r1⟩ := trodAll_cons r0
  obtain ⟨rfl, rfl, rfl⟩ := trodAll_nil r1
  obtain rfl : args = #[v0, v1] := by cases args; simp_all
  obtain ⟨rfl, rfl⟩ := trodVars_none hV
  obtain ⟨a0, b0, rfl, w0, x0⟩ := open_ints2 Try.underlying37 Try.underlying3 cellsI cellsJ (hval 0 37 v0 rfl rfl) h0
  obtain ⟨l1, w1⟩ := open_as24 (hval 1 23 v1 rfl rfl) h1
  clear hA0 hval0
  simp only [List.append_nil] at hW' hAk hlt
  refine (walk W a0 b0 v1 l1 w0 x0 w1).mono fun e W' ⟨he, hg⟩ => ?_
  subst he
  exact ⟨_, rfl, post_kp (pv := []) hW' (fun _ _ _ => (trodAll_cons_mk (shut_bool Try.underlying4 _) trodAll_mk0)) (fun sp hsp => trodAll_stays laidOut (by rw [Try.params4]; exact of_decide_eq_true (by kernel_rfl)) hAk (fun x hx => Below.same hg (hlt x hx)) hsp) (fun _ _ => rfl) (by simp) hg⟩

theorem over : Rows.cacheOldRow.holds Try.pinned (OpenSpec.ofChange Rows.cacheOldSpec) :=
  OpenClaim.holds_of_wide 4 Try.f4 rfl rfl rfl rfl rfl rfl rfl ⟨rfl, rfl, rfl, rfl, rfl⟩ rfl rfl rfl rfl rfl (by kernel_rfl) Try.func4 (by kernel_rfl)
    (of_decide_eq_true (by kernel_rfl)) (by unfold Func.isWrapper; first | (rw [if_pos (by decide +kernel)]; kernel_rfl) | (rw [if_neg (by decide +kernel)]; exact ⟨rfl, rfl⟩))
    (fun os started H enc _ => lifted os started H enc)

end Go.Proofs.Ytncdidklgpmefaa.cacheOld
namespace Go.Proofs.Ytncdidklgpmefaa
theorem cacheOld_holds : Rows.CacheOldSaid := cacheOld.over
end Go.Proofs.Ytncdidklgpmefaa
