/-
  CacheKeeps: for every input the law answers true, and its arguments read as before. No condition.
-/
import Derived.Test.YtncdidklgpmefaaRows
import Derived.Test.YtncdidklgpmefaaBufArgs
import Derived.Test.YtncdidklgpmefaaCaWant
import Derived.WalkKit
import Derived.ProofKit
import Derived.OpenShut
import Derived.ShutString
import Derived.Deep.QuietTactic
import Derived.BigQuiet
import Derived.Deep.RegionWith
import Derived.Deep.RegionHeld3
import Derived.Deep.DeepCutAuto
import Derived.Deep.CutBlock
namespace Go.Proofs.Ytncdidklgpmefaa.cacheKeeps
open Go.ChangeShapes Go.WideShapes Go.ChangeAt Go.RowKit
open Go.ChangeMaps (open_string shut_string)
open Go.Proofs.Ytncdidklgpmefaa Plain
set_option linter.unusedVariables false

theorem own : ownKnob Try.prog.godebug = none := by kernel_rfl
theorem laidOut : laidOutB Try.prog = true := by kernel_rfl
theorem cellsI : Try.prog.cellsOf 3 = 1 := by kernel_rfl
theorem cellsK : Try.prog.cellsOf 22 = 3 := by kernel_rfl
/-- how the cache stands to what the law wants. -/
structure Kw (C : CS) (m d : Int) (f : Int → Int → Option ByteArray) : Prop where
  M : C.S.M = m
  W : C.W = d
  f : ∀ a b s, f a b = some s → (C.H a).d b = true ∧ (C.H a).n b = s ∧ 0 ≤ b ∧ b < 256
theorem Kw.new (m z d : Int) : Kw (newC m z d) m d (fun _ _ => none) := ⟨rfl, rfl, fun a b s h => by cases h⟩
theorem Kw.kept {C C' : CS} {m d : Int} {f : Int → Int → Option ByteArray} (h : Kw C m d f) (hM : C'.S.M = C.S.M) (hW : C'.W = C.W) (hH : ∀ a, C'.H a = C.H a ∨ (C'.H a = hd0 ∧ dyH (C.H a) = false)) : Kw C' m d f := by
  refine ⟨hM.trans h.M, hW.trans h.W, fun a b s e => ?_⟩
  obtain ⟨q1, q2, q3, q4⟩ := h.f a b s e
  rcases hH a with e1 | ⟨_, e1⟩
  · rw [e1]; exact ⟨q1, q2, q3, q4⟩
  · rw [dy_of q3 q4 q1] at e1; cases e1
theorem Kw.fill {C : CS} {m d : Int} {f : Int → Int → Option ByteArray} (h : Kw C m d f) (hi : Ci C) (t k : Int) (s : ByteArray) : Kw (flC C t k s) m d f := by
  by_cases he : ptE C t k s.size = 0
  · refine ⟨(fl_M _ _ _ _).1.trans h.M, (fl_M _ _ _ _).2.trans h.W, fun a b u e => ?_⟩
    obtain ⟨q1, q2, q3, q4⟩ := h.f a b u e
    by_cases ea : a = t
    · subst ea
      rw [fl_H he]
      refine ⟨q1, ?_, q3, q4⟩
      show (if (C.H a).d k then (C.H a).n else upS (C.H a).n k s) b = u
      by_cases eb : b = k
      · subst eb; rw [q1, if_pos rfl]; exact q2
      · split
        · exact q2
        · rw [upS_off _ _ eb]; exact q2
    · rcases fl_oth hi k s ea with e1 | ⟨_, e1⟩
      · rw [e1]; exact ⟨q1, q2, q3, q4⟩
      · rw [dy_of q3 q4 q1] at e1; cases e1
  · rw [fl_no he]; exact h
theorem Kw.get {C : CS} {m d : Int} {f : Int → Int → Option ByteArray} (h : Kw C m d f) (t k : Int) : Kw (gtC C t k) m d f := h.kept (gt_M _ _ _).1 (gt_M _ _ _).2 (fun a => .inl (by rw [gt_H]))
theorem Kw.drop {C : CS} {m d : Int} {f : Int → Int → Option ByteArray} (h : Kw C m d f) (t : Int) : Kw (dpC C t) m d f := h.kept (dp_M _ _).1 (dp_M _ _).2 (fun a => by
  by_cases e : a = t
  · rw [e]; exact dp_H C t
  · exact .inl (dp_oth C e))
/-- the wants of a stripe's first columns struck out. -/
def cutW (f : Int → Int → Option ByteArray) (t n a b : Int) : Option ByteArray := if a = t ∧ 0 ≤ b ∧ b < n then none else f a b
theorem cutW_zero (f : Int → Int → Option ByteArray) (t : Int) : cutW f t ((0 : Nat) : Int) = f := by
  funext a b
  unfold cutW
  rw [if_neg (by omega)]
theorem cutW_next (f : Int → Int → Option ByteArray) (t : Int) (n : Nat) : upP (cutW f t n) t n none = cutW f t ((n + 1 : Nat) : Int) := by
  funext a b
  unfold upP cutW
  by_cases e : a = t ∧ b = (n : Int)
  · rw [if_pos e, if_pos (by omega)]
  · rw [if_neg e]
    by_cases e2 : a = t ∧ 0 ≤ b ∧ b < (n : Int)
    · rw [if_pos e2, if_pos (by omega)]
    · rw [if_neg e2, if_neg (by omega)]
theorem Kw.done {C : CS} {m d : Int} {f : Int → Int → Option ByteArray} (h : Kw C m d f) (hi : Ci C) (t : Int) : Kw (dnC C t) m d (cutW f t d) := by
  refine ⟨(dn_M _ _).1.trans h.M, (dn_M _ _).2.trans h.W, fun a b s e => ?_⟩
  unfold cutW at e
  split at e
  · cases e
  · rename_i e2
    obtain ⟨q1, q2, q3, q4⟩ := h.f a b s e
    by_cases ea : a = t
    · have h0 := ((hi.ok a).out b (by rw [h.W]; omega)).2.2
      rw [h0] at q1; cases q1
    · rw [dn_oth C ea]; exact ⟨q1, q2, q3, q4⟩
theorem Kw.put {C : CS} {m d : Int} {f : Int → Int → Option ByteArray} (h : Kw C m d f) (hi : Ci C) {t k : Int} {s : ByteArray} (he : ptE C t k s.size = 0) : Kw (ptC C t k s) m d (upP f t k (some s)) := by
  have hk := (rf_ok.1 (pt_ok.1 he).1).2.1
  have hw := hi.w2
  refine ⟨(pt_M _ _ _ _).1.trans h.M, (pt_M _ _ _ _).2.trans h.W, fun a b u e => ?_⟩
  unfold upP at e
  by_cases ea : a = t
  · subst ea
    rw [pt_H he]
    by_cases eb : b = k
    · rw [if_pos ⟨rfl, eb⟩] at e
      obtain rfl := Option.some.inj e
      subst eb
      exact ⟨if_pos rfl, upS_at _ _ _, hk.1, by omega⟩
    · rw [if_neg (fun e => eb e.2)] at e
      obtain ⟨q1, q2, q3, q4⟩ := h.f a b u e
      refine ⟨(if_neg eb).trans q1, (upS_off _ _ eb).trans q2, q3, q4⟩
  · rw [if_neg (fun e => ea e.1)] at e
    obtain ⟨q1, q2, q3, q4⟩ := h.f a b u e
    rcases pt_oth hi k s ea with e1 | ⟨_, e1⟩
    · rw [e1]; exact ⟨q1, q2, q3, q4⟩
    · rw [dy_of q3 q4 q1] at e1; cases e1
theorem Kw.putno {C : CS} {m d : Int} {f : Int → Int → Option ByteArray} (h : Kw C m d f) {t k : Int} {s : ByteArray} (he : ptE C t k s.size ≠ 0) : Kw (ptC C t k s) m d f := by rw [pt_no he]; exact h
/-- the law's state: the cache, the map beside it, how they stand to each other. -/
def Ks (w wr : World) (c M k : Nat) (m d : Int) : Prop := ∃ C n f D, Ca w wr c k C [M] ∧ MpW wr M n f D ∧ n ≤ k ∧ Kw C m d f
theorem Lk.one {M : Nat} {X : List Nat} {w w' : World} (h : Lk X w w') (hM : M ∈ X) : w'.heap[M]? = w.heap[M]? := h M hM
set_option maxRecDepth 100000 in
set_option maxHeartbeats 8000000 in
theorem walk (w : World) (a0 b0 c0 : Int) (a1 : Value) (l1 : List A4c) (w0 : (Lit.int .i64 a0).wf = true) (x0 : (Lit.int .i64 b0).wf = true) (y0 : (Lit.int .i64 c0).wf = true) (w1 : Acts w a1 l1) :
    Calls Try.prog 3 #[.agg #[.int .i64 a0, .int .i64 b0, .int .i64 c0], a1] w fun e w' => e = .returned (.bool true) ∧ Kp w w' := by
  clear w0 x0 y0
  obtain ⟨ma, hma⟩ : ∃ m, m = max 0 a0 := ⟨_, rfl⟩
  have hmaxa : ∀ ts t W, (Builtin.max_ ts t #[.int .i64 0, .int .i64 a0]).run Try.prog W = .ok (.int .i64 ma) W := fun ts t W => by rw [hma]; exact imax ts t 0 a0 W
  obtain ⟨mb, hmb⟩ : ∃ m, m = max 0 b0 := ⟨_, rfl⟩
  have hmaxb : ∀ ts t W, (Builtin.max_ ts t #[.int .i64 0, .int .i64 b0]).run Try.prog W = .ok (.int .i64 mb) W := fun ts t W => by rw [hmb]; exact imax ts t 0 b0 W
  obtain ⟨mc, hmc⟩ : ∃ m, m = max 0 c0 := ⟨_, rfl⟩
  have hmaxc : ∀ ts t W, (Builtin.max_ ts t #[.int .i64 0, .int .i64 c0]).run Try.prog W = .ok (.int .i64 mc) W := fun ts t W => by rw [hmc]; exact imax ts t 0 c0 W
  obtain ⟨ra, hra⟩ : ∃ t : Int, t = ma % 8 := ⟨_, rfl⟩
  have hta : ma.tmod 8 = ra := by rw [Int.tmod_eq_emod_of_nonneg (by omega), hra]
  obtain ⟨m, hm⟩ : ∃ m : Int, m = 1 + ra := ⟨_, rfl⟩
  obtain ⟨rc, hrc⟩ : ∃ t : Int, t = mc % 5 := ⟨_, rfl⟩
  have htc : mc.tmod 5 = rc := by rw [Int.tmod_eq_emod_of_nonneg (by omega), hrc]
  obtain ⟨d, hd⟩ : ∃ m : Int, m = 2 + rc := ⟨_, rfl⟩
  obtain ⟨z, hz⟩ : ∃ t : Int, t = mb % m := ⟨_, rfl⟩
  have htz : mb.tmod m = z := by rw [Int.tmod_eq_emod_of_nonneg (by omega), hz]
  have hmz : (m == 0) = false := by simp; omega
  have hdz : (d == 0) = false := by simp; omega
  have HT : Hid ((1 ≤ m ∧ m ≤ 8) ∧ (2 ≤ d ∧ d ≤ 6) ∧ (0 ≤ z ∧ z < m)) := ⟨by omega, by omega, by rw [hz]; exact ⟨Int.emod_nonneg _ (by omega), Int.emod_lt_of_pos _ (by omega)⟩⟩
  have hm1 : 1 ≤ m := HT.out.1.1
  have hra2 : 0 ≤ ra ∧ ra < 8 := by omega
  have hrc2 : 0 ≤ rc ∧ rc < 5 := by omega
  obtain ⟨pa, pg, po, pc, ln, rfl, hp1, hp2, hpa, hpc⟩ := w1.open
  have HPC := hid hpc
  obtain ⟨kq, ekk⟩ : ∃ k, k = min ln 80 := ⟨_, rfl⟩
  have hmin : ∀ ts t W, (Builtin.min_ ts t #[.int .i64 (ln : Int), .int .i64 80]).run Try.prog W = .ok (.int .i64 (kq : Int)) W := fun ts t W => by
    rw [imin ts t _ _ W]
    congr 2
    omega
  have hk1 : kq ≤ ln := by omega
  have hk80 : kq ≤ 80 := by omega
  obtain ⟨W, hW⟩ : ∃ W, W = w.alloc (.cells #[.int .i64 a0, .int .i64 b0, .int .i64 c0] 22) := ⟨_, rfl⟩
  obtain ⟨H, hH⟩ : ∃ H, H = w.heap.size := ⟨_, rfl⟩
  have hB : W.heap[H]? = some (.cells #[.int .i64 a0, .int .i64 b0, .int .i64 c0] 22 (0, 0)) := by rw [hW, hH]; exact new_obj _ _ _
  have e0 := cell_of hB 0
  have e1 := cell_of hB 1
  have e2 := cell_of hB 2
  have HW : Hid (W = w.alloc (.cells #[.int .i64 a0, .int .i64 b0, .int .i64 c0] 22) ∧ H = w.heap.size) := ⟨hW, hH⟩
  have HK : Hid (Kp w W) := by rw [hW]; exact (Kp.refl w).alloc _
  have hN := cnew_ok (m := m) (z := z) (d := d) ⟨HT.out.1.1, by have := HT.out.1.2; omega, HT.out.2.2.1, HT.out.2.2.2⟩ HT.out.2.1.1 (by have := HT.out.2.1.2; omega) W
  clear hpc ekk hma hmb hmc hra hrc hz hW hH hB w1
  go_enter Try.func3, Try.ntmps3
  go_upto_region 1 with fail
  rw [← HW.out.1, ← HW.out.2]
  clear HW
  go_upto_region 2 with fail
  rw [← hm]
  clear hm hra2 hta hmaxa
  go_upto_region 3 with fail
  rw [← hd]
  clear hd hrc2 htc hmaxc
  go_wp2_with fail
  refine hN.mono ?_; rintro e w1 ⟨c, rfl, u1⟩
  have HU := hid u1
  clear hN u1 e0 e1 e2 htz hmaxb hmz
  go_wp2_with fail
  refine (wakes_any _).mono ?_; rintro e w2 ⟨rfl, k2⟩
  have HU2 : Hid (Ca w w2 c 0 (newC m z d) []) := (HU.out.kp k2).1.base HK.out
  clear k2 HU HK
  have hmm : ∀ (t : TypeId) (W : World), (Instr.makeMap t none).run Try.prog W = .ok (.map (some W.heap.size)) (W.alloc (.map #[] 0)) := fun _ _ => rfl
  obtain ⟨w3, hw3⟩ : ∃ V, V = w2.alloc (.map #[] 0) := ⟨_, rfl⟩
  obtain ⟨M, hM⟩ : ∃ V, V = w2.heap.size := ⟨_, rfl⟩
  have H0 : Hid (Ks w w3 c M 0 m d) := by
    have k3 : Kp w2 w3 := by rw [hw3]; exact (Kp.refl w2).alloc _
    refine ⟨_, 0, fun _ _ => none, .map [], HU2.out.more k3 (by omega) (by rw [hw3, hM]; simp), ?_, Nat.le_refl _, Kw.new m z d⟩
    rw [hw3, hM]
    exact MpW.made w2
  have HWM : Hid (w3 = w2.alloc (.map #[] 0) ∧ M = w2.heap.size ∧ w.heap.size ≤ M) := ⟨hw3, hM, by rw [hM]; exact HU2.out.k.size⟩
  clear hw3 hM HU2
  go_upto_region 7 with fail
  rw [← HWM.out.1, ← HWM.out.2.1]
  go_cut [52, 53, 54] (fun p qq i wx => ∃ a', p = .slice a' kq pc ∧ qq = .int .i64 (kq : Int) ∧ i = .int .i64 ((0 : Nat) : Int) ∧ (0 < kq → a' = some ⟨pg, po, none⟩) ∧ w3 = wx)
  case first =>
    by_cases h0 : 0 < ln
    · obtain rfl := hpa h0
      go_wp2_with fail
      go_meet
      exact ⟨_, rfl, rfl, rfl, fun _ => rfl, rfl⟩
    · have hn0 : ln = 0 := by omega
      subst hn0
      obtain rfl : kq = 0 := by omega
      cases pa with
      | none =>
        go_wp2_with fail
        go_meet
        exact ⟨_, rfl, rfl, rfl, fun h => absurd h (by omega), rfl⟩
      | some ad =>
        go_wp2_with fail
        go_meet
        exact ⟨_, rfl, rfl, rfl, fun h => absurd h (by omega), rfl⟩
  case rest =>
  obtain ⟨a', rfl, rfl, rfl, ha', rfl⟩ := hcut
  have HMw : Hid (w.heap.size ≤ M) := HWM.out.2.2
  clear hmin hpa HWM hmm
  go_wp2_with fail
  go_loopw [11, 12, 13, 14, 15, 16, 17, 18, 19, 54] (fun _ _ _ _ _ _ _ _ _ i wr => ∃ (k : Nat), k ≤ kq ∧ i = .int .i64 k ∧ Hid (Ks w wr c M k m d)) (fun _ _ _ _ _ _ _ _ _ i _ => kq - (intOf i).toNat)
  case atStart => exact ⟨0, by omega, by go_num, H0⟩
  case round =>
    clear H0
    obtain ⟨k, hk, rfl, HQ⟩ := hrel
    rename World => wr
    by_cases hlt : k < kq
    · obtain rfl := ha' (by omega)
      have HKR : Hid (Kp w wr) := by obtain ⟨_, _, _, _, q, _⟩ := HQ.out; exact q.k
      obtain ⟨⟨c0, c1, c2, c3, c4⟩, hok⟩ := HPC.out wr HKR.out k (by omega)
      obtain ⟨dd, hdd⟩ : ∃ z, z = (l1.getD k noA).d := ⟨_, rfl⟩
      obtain ⟨ky, hky⟩ : ∃ z, z = (l1.getD k noA).k := ⟨_, rfl⟩
      obtain ⟨kc, hkc⟩ : ∃ z, z = (l1.getD k noA).c := ⟨_, rfl⟩
      obtain ⟨bb, hbb⟩ : ∃ z, z = (l1.getD k noA).b := ⟨_, rfl⟩
      obtain ⟨oo, hoo⟩ : ∃ z, z = (l1.getD k noA).o := ⟨_, rfl⟩
      have hb256 : bb < 256 := by rw [hbb]; exact hok.b
      rw [← hdd] at c0
      rw [← hky] at c1
      rw [← hkc] at c2
      rw [← hbb] at c3
      rw [← hoo] at c4
      obtain ⟨V, hV⟩ : ∃ V, V = wr.alloc (.cells #[.int .i64 dd, .int .i64 ky, .int .i64 kc, .int .u8 (bb : Int), .bool oo] 31) := ⟨_, rfl⟩
      obtain ⟨H2, hH2⟩ : ∃ H, H = wr.heap.size := ⟨_, rfl⟩
      have e0 : V.cell? ⟨H2, 0, none⟩ = some (.int .i64 dd) := by rw [hV, hH2, World.cell?_alloc_at _ _ _ _ rfl]; rfl
      have e1 : V.cell? ⟨H2, 1, none⟩ = some (.int .i64 ky) := by rw [hV, hH2, World.cell?_alloc_at _ _ _ _ rfl]; rfl
      have e2 : V.cell? ⟨H2, 2, none⟩ = some (.int .i64 kc) := by rw [hV, hH2, World.cell?_alloc_at _ _ _ _ rfl]; rfl
      have e3 : V.cell? ⟨H2, 3, none⟩ = some (.int .u8 (bb : Int)) := by rw [hV, hH2, World.cell?_alloc_at _ _ _ _ rfl]; rfl
      have kV : Kp wr V := by rw [hV]; exact (Kp.refl wr).alloc _
      have HV : Hid (V = wr.alloc (.cells #[.int .i64 dd, .int .i64 ky, .int .i64 kc, .int .u8 (bb : Int), .bool oo] 31) ∧ H2 = wr.heap.size) := ⟨hV, hH2⟩
      obtain ⟨s, hs⟩ : ∃ s, s = scS bb false := ⟨_, rfl⟩
      have sS : ∀ W, Calls Try.prog 7 #[.int .u8 (bb : Int), .bool false] W fun e w' => e = .returned (.string s) ∧ Kp W w' := fun W => by rw [hs]; exact sector_any bb hb256 false W
      have HSz : Hid (s.size = 64) := by show s.size = 64; rw [hs]; exact scS_size _
      have HX := hid (And.intro HQ.out kV)
      obtain ⟨t, ht⟩ : ∃ t, t = ky % 16 := ⟨_, rfl⟩
      have hmk : bits .and .i64 ky 15 = t := by rw [ht]; exact mask15 ky
      obtain ⟨mk, hmk2⟩ : ∃ m, m = max 0 kc := ⟨_, rfl⟩
      have hmaxk : ∀ ts t W, (Builtin.max_ ts t #[.int .i64 0, .int .i64 kc]).run Try.prog W = .ok (.int .i64 mk) W := fun ts t W => by rw [hmk2]; exact imax ts t 0 kc W
      obtain ⟨kk, hkk⟩ : ∃ t : Int, t = mk % d := ⟨_, rfl⟩
      have htk : mk.tmod d = kk := by rw [Int.tmod_eq_emod_of_nonneg (by omega), hkk]
      have hd1 : 1 ≤ d := by have := HT.out.2.1.1; omega
      have HKK : Hid ((0 ≤ t ∧ t < 16) ∧ 0 ≤ kk ∧ kk < d) := ⟨by omega, by rw [hkk]; exact ⟨Int.emod_nonneg _ (by omega), Int.emod_lt_of_pos _ (by omega)⟩⟩
      have hdn : ¬ d = 0 := by omega
      clear hdd hky hkc hbb hoo hV hH2 kV HQ hok hs ht hmk2 hkk hb256
      go_upto_region 10 with fail
      rw [← HV.out.1, ← HV.out.2]
      clear HV c0 c1 c2 c3 c4
      have q1 := kpw_cell e1
      have q2 := kpw_cell e2
      have q3 := kpw_cell e3
      clear e1 e2 e3
      refine wp_region_kp (by kernel_rfl) (by kernel_rfl) ?_
      repeat (first
        | go_big_quiet_skip
        | (go_big_quiet_want; go_big_quiet_op; go_big_quiet_on)
        | (go_big_quiet_want; go_big_quiet_op; apply Exists.intro; refine ⟨fun p => ?_, ?_⟩; (focus (go_at_call 7; with_reducible exact kp_call (sS _))); go_big_quiet_on))
      refine wpQuiet_nil ?_
      rintro V2 ⟨p, hp⟩
      have HX2 : Hid (Ks w V2 c M k m d) := by
        have kp2 : Kp wr V2 := by rw [hp]; exact HX.out.2.trans (kpw_kp V p)
        obtain ⟨C, n, f, D, x1, x2, x3, x4⟩ := HX.out.1
        exact ⟨C, n, f, D, (x1.kp kp2).1, x2.blk ((x1.kp kp2).2 M (by simp)), x3, x4⟩
      have e0 : V2.cell? ⟨H2, 0, none⟩ = some (.int .i64 dd) := by rw [hp]; exact kpw_cell e0 p
      have hm7 := mask7 dd
      obtain ⟨m7, hmm⟩ : ∃ m, m = dd % 8 := ⟨_, rfl⟩
      rw [← hmm] at hm7
      have H7 : Hid (((m7 = 2 ∨ m7 = 3) ∨ (m7 = 4 ∨ m7 = 7)) ∨ m7 = 5 ∨ m7 = 6 ∨ (m7 = 0 ∨ m7 = 1)) := by show (_ ∨ _) ∨ _; omega
      have HKO : Hid (iOk t ∧ iOk kk) := by
        have := HKK.out
        have := HT.out.2.1
        unfold iOk
        refine ⟨?_, ?_⟩ <;> omega
      clear hp q1 q2 q3 sS hmk hmaxk htk hdn hdz hmm HX
      go_upto_block 2 with fail
      go_cut [15] (fun _ wx => Hid (Ks w wx c M (k + 1) m d))
      case first =>
        rcases H7.out with (h7 | h7) | rfl | rfl | h7
        · obtain ⟨C, n, f, D, x1, x2, x3, x4⟩ := HX2.out
          have hC := cfill x1 (by omega) t kk s
          have HP : Hid (∀ V3, Ca w V3 c (k + 1) (flC C t kk s) [M] → Lk [M] V2 V3 → Ks w V3 c M (k + 1) m d) := fun V3 u l => ⟨_, n, f, D, u, x2.blk (l M (by simp)), by omega, x4.fill x1.i t kk s⟩
          clear x1 x2 x3 x4 HX2
          rcases h7 with rfl | rfl
          · go_wp2_with fail
            refine hC.mono ?_; rintro e V3 ⟨rfl, u, l⟩
            have HY := hid (HP.out V3 u l)
            clear hC u l HP
            go_wp2
            go_meet
            exact HY
          · go_wp2_with fail
            refine hC.mono ?_; rintro e V3 ⟨rfl, u, l⟩
            have HY := hid (HP.out V3 u l)
            clear hC u l HP
            go_wp2
            go_meet
            exact HY
        · obtain ⟨C, n, f, D, x1, x2, x3, x4⟩ := HX2.out
          have hC := cget x1 HKO.out.1 kk
          have HP : Hid (∀ V3, Ca w V3 c k (gtC C t kk) [M] → Lk [M] V2 V3 → Ks w V3 c M (k + 1) m d) := fun V3 u l => ⟨_, n, f, D, u.up (Nat.le_succ _), x2.blk (l M (by simp)), by omega, x4.get t kk⟩
          clear x1 x2 x3 x4 HX2
          rcases h7 with rfl | rfl
          · go_wp2_with fail
            refine hC.mono ?_; rintro e V3 ⟨rfl, u, l⟩
            have HY := hid (HP.out V3 u l)
            clear hC u l HP
            go_wp2
            go_meet
            exact HY
          · go_wp2_with fail
            refine hC.mono ?_; rintro e V3 ⟨rfl, u, l⟩
            have HY := hid (HP.out V3 u l)
            clear hC u l HP
            go_wp2
            go_meet
            exact HY
        · obtain ⟨C, n, f, D, x1, x2, x3, x4⟩ := HX2.out
          have hC := cdone x1 (by omega) HKO.out.1
          have HP : Hid (∀ V3, Ca w V3 c (k + 1) (dnC C t) [M] → Lk [M] V2 V3 → ∃ C n f D, Ca w V3 c (k + 1) C [M] ∧ MpW V3 M n (cutW f t (0 : Nat)) D ∧ n ≤ k ∧ Kw C m d (cutW f t d)) := fun V3 u l => ⟨_, n, f, D, u, by rw [cutW_zero]; exact x2.blk (l M (by simp)), x3, x4.done x1.i t⟩
          obtain ⟨dN, hdN⟩ : ∃ n : Nat, d = n := ⟨d.toNat, by omega⟩
          clear x1 x2 x3 x4 HX2
          go_wp2_with fail
          refine hC.mono ?_; rintro e V3 ⟨rfl, u, l⟩
          obtain ⟨C', n', f', D', y1, y2, y3, y4⟩ := HP.out V3 u l
          have HY : Hid (Ca w V3 c (k + 1) C' [M] ∧ (∃ D, MpW V3 M n' (cutW f' t (0 : Nat)) D) ∧ n' ≤ k ∧ Kw C' m d (cutW f' t d)) := ⟨y1, ⟨D', y2⟩, y3, y4⟩
          have hdN6 : dN ≤ 6 := by have := HT.out.2.1.2; omega
          clear hC u l HP y1 y2 y3 y4 HT HKK hd1
          subst hdN
          go_wp2_with fail
          go_loopw [15, 104] (fun _ i wx => ∃ (j : Nat), j ≤ dN ∧ i = .int .i64 j ∧ Hid (Ca w wx c (k + 1) C' [M] ∧ (∃ D, MpW wx M n' (cutW f' t j) D) ∧ n' ≤ k ∧ Kw C' m dN (cutW f' t dN))) (fun _ i _ => dN - (intOf i).toNat)
          case atStart => exact ⟨0, by omega, by go_num, HY⟩
          case round =>
            clear HY
            obtain ⟨j, hj, rfl, HY⟩ := hrel
            rename World => wz
            by_cases hlj : j < dN
            · obtain ⟨x1, ⟨D2, x2⟩, x3, x4⟩ := HY.out
              obtain ⟨wq, hrun, hm, hs⟩ := x2.del HKO.out.1 (j := j) (by unfold iOk; omega)
              rw [cutW_next] at hm
              have HYn : Hid (Ca w wq c (k + 1) C' [M] ∧ (∃ D, MpW wq M n' (cutW f' t ((j + 1 : Nat) : Int)) D) ∧ n' ≤ k ∧ Kw C' m dN (cutW f' t dN)) := ⟨x1.sp hs (fun t ht => by simp at ht; subst ht; exact ⟨by simp, HMw.out⟩), ⟨_, hm⟩, x3, x4⟩
              clear x1 x2 x3 x4 hm hs HY
              go_wp2
              go_roundw
              case rel => exact ⟨j + 1, by omega, by go_num, HYn⟩
              case measure => simp [intOf]; omega
            · obtain rfl : j = dN := by omega
              have HYe : Hid (Ks w wz c M (k + 1) m j) := by
                obtain ⟨x1, ⟨D2, x2⟩, x3, x4⟩ := HY.out
                exact ⟨C', n', _, D2, x1, x2, by omega, x4⟩
              clear HY
              go_wp2_with fail
              go_meet
              exact HYe
        · obtain ⟨C, n, f, D, x1, x2, x3, x4⟩ := HX2.out
          have hC := cdrop x1 HKO.out.1
          have HP : Hid (∀ V3, Ca w V3 c k (dpC C t) [M] → Lk [M] V2 V3 → Ks w V3 c M (k + 1) m d) := fun V3 u l => ⟨_, n, f, D, u.up (Nat.le_succ _), x2.blk (l M (by simp)), by omega, x4.drop t⟩
          clear x1 x2 x3 x4 HX2
          go_wp2_with fail
          refine hC.mono ?_; rintro e V3 ⟨rfl, u, l⟩
          have HY := hid (HP.out V3 u l)
          clear hC u l HP
          go_wp2
          go_meet
          exact HY
        · obtain ⟨C, n, f, D, x1, x2, x3, x4⟩ := HX2.out
          have hC := cput x1 (by omega) t kk s
          by_cases he : ptE C t kk s.size = 0
          · rw [he] at hC
            have HP : Hid (∀ V3, Ca w V3 c (k + 1) (ptC C t kk s) [M] → Lk [M] V2 V3 → Ca w V3 c (k + 1) (ptC C t kk s) [M] ∧ MpW V3 M n f D ∧ n ≤ k ∧ Kw (ptC C t kk s) m d (upP f t kk (some s))) := fun V3 u l => ⟨u, x2.blk (l M (by simp)), x3, x4.put x1.i he⟩
            clear x1 x2 x3 x4 HX2 he
            rcases h7 with rfl | rfl
            all_goals
              go_wp2_with fail
              refine hC.mono ?_; rintro e V3 ⟨rfl, u, l⟩
              obtain ⟨y1, y2, y3, y4⟩ := HP.out V3 u l
              obtain ⟨wq, D2, hrun, hm, hs⟩ := y2.put HKO.out.1 HKO.out.2 (by omega) s (by have := HSz.out; omega)
              have HY : Hid (Ks w wq c M (k + 1) m d) := ⟨_, n + 1, _, D2, y1.sp hs (fun t ht => by simp at ht; subst ht; exact ⟨by simp, HMw.out⟩), hm, by omega, y4⟩
              clear hC u l HP y1 y2 y3 y4 hm hs
              go_wp2
              go_meet
              exact HY
          · have HP : Hid (∀ V3, Ca w V3 c (k + 1) (ptC C t kk s) [M] → Lk [M] V2 V3 → Ks w V3 c M (k + 1) m d) := fun V3 u l => ⟨_, n, f, D, u, x2.blk (l M (by simp)), by omega, x4.putno he⟩
            obtain ⟨E, hE⟩ : ∃ E, E = ptE C t kk s.size := ⟨_, rfl⟩
            rw [← hE] at hC he
            have heb : (E == 0) = false := by simpa using he
            clear x1 x2 x3 x4 HX2 he hE
            rcases h7 with rfl | rfl
            all_goals
              go_wp2_with fail
              refine hC.mono ?_; rintro e V3 ⟨rfl, u, l⟩
              have HY := hid (HP.out V3 u l)
              clear hC u l HP
              go_wp2
              go_meet
              exact HY
      case rest =>
      rename World => y2
      rename Hid (Ks w y2 c M (k + 1) m d) => HZ
      obtain ⟨C, n, f, D, x1, x2, x3, x4⟩ := HZ.out
      have hown := x2.own
      have HX5 := hid (And.intro x1 (And.intro x2 (And.intro x3 x4)))
      clear x1 x2 x3 x4 HZ HX2 e0 hm7 H7 HKK HKO HSz HKR
      go_wp2_with (at_range; refine wpList_range_own _ rfl _ 29 rfl 37 9 pair_key Try.underlying29 _ M n D rfl hown ?_; intro wi hrg0 hg0 hs0)
      (try go_frame)
      have H1 : Hid (wi.ranges Try.prog 37 (plainElem Try.prog 9) M y2.heap.size n D (Maps.has D) (Maps.size D) ∧ (∀ kl, Maps.has D kl = true → Maps.has D kl = true) ∧ ∃ C, Ca w wi c (k + 1) C [y2.heap.size, M] ∧ Kw C m d f ∧ MpW wi M n f D) := by
        have hKi : Kp y2 wi := ⟨hg0.os, hg0.tape, hg0.output, hg0.size, fun k hk => hg0.block k hk (by simp)⟩
        exact ⟨hrg0, fun _ h => h, C, HX5.out.1.more hKi (Nat.le_refl _) (by omega), HX5.out.2.2.2, HX5.out.2.1.blk (hKi.block M HX5.out.2.1.lt)⟩
      have HN : Hid (n ≤ k + 1 ∧ w.heap.size ≤ y2.heap.size ∧ y2.heap.size ≠ M) := ⟨HX5.out.2.2.1, HX5.out.1.k.size, by have := HX5.out.2.1.lt; omega⟩
      clear hrg0 hg0 hs0 hown HX5
      go_loopw [16, 17, 18, 19] (fun _ _ _ _ w7 => ∃ (left : Lit → Bool) (cnt : Nat), Hid (w7.ranges Try.prog 37 (plainElem Try.prog 9) M y2.heap.size n D left cnt ∧ (∀ kl, left kl = true → Maps.has D kl = true) ∧ ∃ C, Ca w w7 c (k + 1) C [y2.heap.size, M] ∧ Kw C m d f ∧ MpW w7 M n f D)) (fun _ _ _ _ w7 => w7.rangeLeft M y2.heap.size)
      case atStart => exact ⟨_, _, H1⟩
      case round =>
        clear H1
        obtain ⟨left, cnt, HL⟩ := hrel
        rename World => wo
        go_wp2_with (at_next; refine wpList_next_pair rfl _ rfl M y2.heap.size n D left cnt rfl HL.out.1 ?_ ?_)
        · intro h0 hl0
          have HE : Hid (Ks w wo c M (k + 1) m d) := by
            obtain ⟨_, _, C, x1, x4, x2⟩ := HL.out
            exact ⟨C, n, f, D, x1.less (by simp), x2, by have := HN.out.1; omega, x4⟩
          clear HL h0 hl0
          go_wp2
          go_roundw
          case rel => exact ⟨k + 1, by omega, by go_num, HE⟩
          case measure => simp [intOf]; omega
        · intro i j u w1 cnt1 hi hj hlk hat hrg1 hlt1 hs1 hen
          obtain ⟨hrg, hL, C1, x1, x4, x2⟩ := HL.out
          have hfs : f i j = some u := by
            obtain ⟨g1, g2⟩ := x2.at_ i j hi hj
            rw [hL _ hlk] at g1
            obtain ⟨v, hv⟩ := Option.isSome_iff_exists.1 g1.symm
            have g3 := (g2 v hv).2 .nil
            rw [hat] at g3
            have g4 : u = v := data_inj (by simpa using g3)
            rw [hv, g4]
          obtain ⟨r1, r2, r3, r4⟩ := x4.f i j u hfs
          have hsz : isS u = true := by
            have := (x1.i.ok i).dn j r1
            rw [r2] at this
            exact isS_of this
          have xs1 := x1.sp hs1 (fun t ht => by simp at ht; subst ht; exact ⟨by simp, HN.out.2.1⟩)
          obtain ⟨V, hV⟩ : ∃ V, V = w1.alloc (.cells #[.int .i64 i, .int .i64 j] 37) := ⟨_, rfl⟩
          obtain ⟨H2, hH2⟩ : ∃ H, H = w1.heap.size := ⟨_, rfl⟩
          have e0 : V.cell? ⟨H2, 0, none⟩ = some (.int .i64 i) := by rw [hV, hH2, World.cell?_alloc_at _ _ _ _ rfl]; rfl
          have e1 : V.cell? ⟨H2, 1, none⟩ = some (.int .i64 j) := by rw [hV, hH2, World.cell?_alloc_at _ _ _ _ rfl]; rfl
          have kV : Kp w1 V := by rw [hV]; exact (Kp.refl w1).alloc _
          obtain ⟨xV, lV⟩ := xs1.kp kV
          have hG := cget xV hi j
          rw [r2, hsz] at hG
          have HV : Hid (V = w1.alloc (.cells #[.int .i64 i, .int .i64 j] 37) ∧ H2 = w1.heap.size) := ⟨hV, hH2⟩
          have hMb : MpW V M n f D := (x2.blk (hs1.block M x2.lt (by simpa using Ne.symm HN.out.2.2))).blk (lV M (by simp))
          have HP : Hid (∀ V2, Ca w V2 c (k + 1) (gtC C1 i j) [y2.heap.size, M] → Lk [y2.heap.size, M] V V2 → V2.ranges Try.prog 37 (plainElem Try.prog 9) M y2.heap.size n D (fun z => left z && !z.sameKey (kP i j)) cnt1 ∧ (∀ kl, (left kl && !kl.sameKey (kP i j)) = true → Maps.has D kl = true) ∧ ∃ C, Ca w V2 c (k + 1) C [y2.heap.size, M] ∧ Kw C m d f ∧ MpW V2 M n f D) := fun V2 u2 l2 =>
            ⟨ranges_blk (ranges_blk hrg1 (lV M (by simp)) (lV _ (by simp))) (l2 M (by simp)) (l2 _ (by simp)), fun kl h => hL kl (by rw [Bool.and_eq_true] at h; exact h.1), _, u2, x4.get i j, hMb.blk (l2 M (by simp))⟩
          have HM : Hid (wo.rangeLeft M y2.heap.size = cnt ∧ cnt1 < cnt) := ⟨hrg.left_eq, hlt1⟩
          clear hrg hL x1 x4 x2 hfs r1 r2 r3 r4 hsz xs1 hV hH2 kV xV lV hMb hlk hat hrg1 hlt1 hs1 HL
          go_upto_region 32 with fail
          rw [← HV.out.1, ← HV.out.2]
          clear HV hen
          go_wp2_with fail
          refine hG.mono ?_; rintro e V2 ⟨rfl, u2, l2⟩
          have HL2 := hid (HP.out V2 u2 l2)
          clear hG u2 l2 HP e0 e1
          go_wp2
          go_roundw
          case rel => exact ⟨_, _, HL2⟩
          case measure => rw [HL2.out.1.left_eq, HM.out.1]; exact HM.out.2
    · obtain rfl : k = kq := by omega
      have HE : Hid (Kp w wr) := by obtain ⟨_, _, _, _, q, _⟩ := HQ.out; exact q.k
      clear HQ
      go_wp2
      go_ret
      exact ⟨rfl, HE.out⟩

set_option maxRecDepth 100000 in
theorem lifted (os : Os) (started : os.Started) (H : Type) (enc : TypeId × Value → H) :
    ReturnsInHanded {} Try.checked os 3 .any (Rows.cacheKeepsSpec.pre6 enc Try.prog Try.f3 Rows.cacheKeepsRow.domain false) (Rows.cacheKeepsSpec.post enc Try.prog Try.f3 false true false false) := by
  refine returnsInHanded_of_change (C := Try.checked) own started (by kernel_rfl) Try.func3
    (ChangeSpec.witness6 (enc := enc) (C := Try.checked) false ⟨#[], #[.agg #[.int .i64 0, .int .i64 0, .int .i64 0], .slice none 0 0], []⟩ 8 (by kernel_rfl) (by kernel_rfl) (by kernel_rfl) (by kernel_rfl)) ?_
  intro W base args ds gs before hval0 hW hcnd _
  have hval : ∀ (j : Nat) t v, Try.f3.params[j]? = some t → args[j]? = some v → Value.okWide Try.prog W .any base t v := hval0
  have hW' := hW
  have hlt := hW.lt
  obtain ⟨p, q, hA0, hV, rfl, hfz, hnd⟩ := hW
  have hA : DataW.TrodAll enc Try.prog W 0 (fun _ => true) true Try.f3.params.toList args.toList ds p := hA0
  have hAk := hA
  rw [Try.params3] at hA hval
  obtain ⟨v0, vs0, d0, ds0, p0, q0, hargs, rfl, rfl, h0, r0⟩ := trodAll_cons hA
  obtain ⟨v1, vs1, d1, ds1, p1, q1, rfl, rfl, rfl, h1, r1⟩ := trodAll_cons r0
  obtain ⟨rfl, rfl, rfl⟩ := trodAll_nil r1
  obtain rfl : args = #[v0, v1] := by cases args; simp_all
  obtain ⟨rfl, rfl⟩ := trodVars_none hV
  obtain ⟨a0, b0, c0, rfl, w0, x0, y0⟩ := open_ints3 Try.underlying22 Try.underlying3 cellsI cellsK (hval 0 22 v0 rfl rfl) h0
  obtain ⟨l1, w1⟩ := open_as24 (hval 1 23 v1 rfl rfl) h1
  clear hA0 hval0
  simp only [List.append_nil] at hW' hAk hlt
  refine (walk W a0 b0 c0 v1 l1 w0 x0 y0 w1).mono fun e W' ⟨he, hg⟩ => ?_
  subst he
  exact ⟨_, rfl, post_kp (pv := []) hW' (fun _ _ _ => (trodAll_cons_mk (shut_bool Try.underlying4 _) trodAll_mk0)) (fun sp hsp => trodAll_stays laidOut (by rw [Try.params3]; exact of_decide_eq_true (by kernel_rfl)) hAk (fun x hx => Below.same hg (hlt x hx)) hsp) (fun _ _ => rfl) (by simp) hg⟩

theorem over : Rows.cacheKeepsRow.holds Try.pinned (OpenSpec.ofChange Rows.cacheKeepsSpec) :=
  OpenClaim.holds_of_wide 3 Try.f3 rfl rfl rfl rfl rfl rfl rfl ⟨rfl, rfl, rfl, rfl, rfl⟩ rfl rfl rfl rfl rfl (by kernel_rfl) Try.func3 (by kernel_rfl)
    (of_decide_eq_true (by kernel_rfl)) (by unfold Func.isWrapper; first | (rw [if_pos (by decide +kernel)]; kernel_rfl) | (rw [if_neg (by decide +kernel)]; exact ⟨rfl, rfl⟩))
    (fun os started H enc _ => lifted os started H enc)

end Go.Proofs.Ytncdidklgpmefaa.cacheKeeps
namespace Go.Proofs.Ytncdidklgpmefaa
theorem cacheKeeps_holds : Rows.CacheKeepsSaid := cacheKeeps.over
end Go.Proofs.Ytncdidklgpmefaa
