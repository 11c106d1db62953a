/-
  CacheClean: for every input the law answers true, and its arguments read as before. Condition: that the table of math/bits reads as it is listed.
-/
import Derived.Test.YtncdidklgpmefaaDoorRows
import Derived.Test.YtncdidklgpmefaaDoorCards
import Derived.Test.YtncdidklgpmefaaDoorTie
import Derived.Test.YtncdidklgpmefaaDoorCaDoor
import Derived.Test.YtncdidklgpmefaaDoorCaDoor
import Derived.Test.YtncdidklgpmefaaDoorCaWant
import Derived.WalkKit
import Derived.ProofKit
import Derived.OpenShut
import Derived.ShutString
import Derived.LaidMore
import Derived.SevenTiedAt
import Derived.Stop.Joined
import Derived.Deep.QuietTactic
import Derived.BigQuiet
import Derived.Deep.RegionWith
import Derived.Deep.RegionHeld3
import Derived.Deep.DeepCutAuto
import Derived.Deep.CutBlock
namespace Go.Proofs.YtncdidklgpmefaaDoor.cacheClean
open Go.ChangeShapes Go.WideShapes Go.ChangeAt Go.RowKit
open Go.ChangeMaps (open_string shut_string)
open Go.Proofs.YtncdidklgpmefaaDoor Plain
set_option linter.unusedVariables false

theorem own : ownKnob Tryd.prog.godebug = none := by kernel_rfl
theorem laidOut : laidOutB Tryd.prog = true := by kernel_rfl
theorem cellsI : Tryd.prog.cellsOf 3 = 1 := by kernel_rfl
theorem cellsK : Tryd.prog.cellsOf 22 = 3 := by kernel_rfl
/-- how the cache stands to what was stored. -/
structure Kc (C : CS) (m d : Int) (f : Int → Int → Option ByteArray) : Prop where
  M : C.S.M = m
  W : C.W = d
  cl : ∀ a b, (C.H a).d b = false
  f : ∀ a b, isS ((C.H a).n b) = true → f a b = some ((C.H a).n b)
theorem Kc.new (m z d : Int) : Kc (newC m z d) m d (fun _ _ => none) := ⟨rfl, rfl, fun _ _ => rfl, fun a b h => by
  have : isS noS = true := h
  rw [isS_no] at this; cases this⟩
theorem no_isS {b : Int} (h : isS (hd0.n b) = true) : False := by
  have : isS noS = true := h
  rw [isS_no] at this; cases this
theorem Kc.kept {C C' : CS} {m d : Int} {f : Int → Int → Option ByteArray} (h : Kc C m d f) (hM : C'.S.M = C.S.M) (hW : C'.W = C.W) (hH : ∀ a, C'.H a = C.H a ∨ C'.H a = hd0) : Kc C' m d f := by
  refine ⟨hM.trans h.M, hW.trans h.W, fun a b => ?_, fun a b e => ?_⟩
  · rcases hH a with e1 | e1
    · rw [e1]; exact h.cl a b
    · rw [e1]; rfl
  · rcases hH a with e1 | e1
    · rw [e1] at e ⊢; exact h.f a b e
    · rw [e1] at e; exact (no_isS e).elim
/-- a stripe's own columns with one laid, nothing dirty. -/
theorem Kc.laid {C C' : CS} {m d : Int} {f : Int → Int → Option ByteArray} (h : Kc C m d f) {t k : Int} {s : ByteArray} (hM : C'.S.M = C.S.M) (hW : C'.W = C.W) (hn : (C'.H t).n = upS (C.H t).n k s) (hd : ∀ b, (C'.H t).d b = false) (hH : ∀ a, a ≠ t → C'.H a = C.H a ∨ C'.H a = hd0) : Kc C' m d (upP f t k (some s)) := by
  refine ⟨hM.trans h.M, hW.trans h.W, fun a b => ?_, fun a b e => ?_⟩
  · by_cases ea : a = t
    · rw [ea]; exact hd b
    · rcases hH a ea with e1 | e1
      · rw [e1]; exact h.cl a b
      · rw [e1]; rfl
  · unfold upP
    by_cases ea : a = t
    · subst ea
      rw [hn] at e ⊢
      by_cases eb : b = k
      · rw [if_pos ⟨rfl, eb⟩, eb, upS_at]
      · rw [if_neg (fun e => eb e.2), upS_off _ _ eb]
        rw [upS_off _ _ eb] at e
        exact h.f a b e
    · rw [if_neg (fun e => ea e.1)]
      rcases hH a ea with e1 | e1
      · rw [e1] at e ⊢; exact h.f a b e
      · rw [e1] at e; exact (no_isS e).elim
theorem Kc.put {C : CS} {m d : Int} {f : Int → Int → Option ByteArray} (h : Kc C m d f) (hi : Ci C) (hg : Gd C.S) {t k : Int} {s : ByteArray} (he : ptE C t k s.size = 0) : Kc (dnC (ptC C t k s) t) m d (upP f t k (some s)) := by
  have hin := pt_in hg he
  refine h.laid ((dn_M _ _).1.trans (pt_M _ _ _ _).1) ((dn_M _ _).2.trans (pt_M _ _ _ _).2) ?_ ?_ (fun a ea => ?_)
  · rw [dn_H hin, pt_H he]; rfl
  · intro b; rw [dn_H hin]; rfl
  · rw [dn_oth _ ea]
    rcases pt_oth hi k s ea with e | ⟨e, _⟩
    · exact .inl e
    · exact .inr e
theorem Kc.fill {C : CS} {m d : Int} {f : Int → Int → Option ByteArray} (h : Kc C m d f) (hi : Ci C) {t k : Int} {s : ByteArray} (he : ptE C t k s.size = 0) : Kc (flC C t k s) m d (upP f t k (some s)) := by
  refine h.laid (fl_M _ _ _ _).1 (fl_M _ _ _ _).2 ?_ ?_ (fun a ea => ?_)
  · rw [fl_H he]
    show (if (C.H t).d k then (C.H t).n else upS (C.H t).n k s) = _
    rw [h.cl, if_neg (by decide)]
  · intro b; rw [fl_H he]; exact h.cl t b
  · rcases fl_oth hi k s ea with e | ⟨e, _⟩
    · exact .inl e
    · exact .inr e
theorem Kc.putno {C : CS} {m d : Int} {f : Int → Int → Option ByteArray} (h : Kc C m d f) {t k : Int} {s : ByteArray} (he : ptE C t k s.size ≠ 0) : Kc (ptC C t k s) m d f := by rw [pt_no he]; exact h
theorem Kc.fillno {C : CS} {m d : Int} {f : Int → Int → Option ByteArray} (h : Kc C m d f) {t k : Int} {s : ByteArray} (he : ptE C t k s.size ≠ 0) : Kc (flC C t k s) m d f := by rw [fl_no he]; exact h
theorem Kc.get {C : CS} {m d : Int} {f : Int → Int → Option ByteArray} (h : Kc C m d f) (t k : Int) : Kc (gtC C t k) m d f := h.kept (gt_M _ _ _).1 (gt_M _ _ _).2 (fun a => .inl (by rw [gt_H]))
theorem Kc.drop {C : CS} {m d : Int} {f : Int → Int → Option ByteArray} (h : Kc C m d f) (t : Int) : Kc (dpC C t) m d f := h.kept (dp_M _ _).1 (dp_M _ _).2 (fun a => by
  by_cases e : a = t
  · rw [e]
    rcases dp_H C t with e | ⟨e, _⟩
    · exact .inl e
    · exact .inr e
  · exact .inl (dp_oth C e))
def Ks (w wr : World) (c M k : Nat) (m d : Int) : Prop := ∃ C n f D, Ca w wr c (2 * k) C [M] ∧ MpW wr M n f D ∧ n ≤ k ∧ Kc C m d f
/-! ### the second loop: what is dirty is what was put so far -/
structure Kd (C : CS) (m d : Int) (t : Nat) : Prop where
  M : C.S.M = m
  W : C.W = d
  dy : ∀ a, dyH (C.H a) = decide (0 ≤ a ∧ a < t)
theorem Kc.kd {C : CS} {m d : Int} {f : Int → Int → Option ByteArray} (h : Kc C m d f) : Kd C m d 0 := by
  refine ⟨h.M, h.W, fun a => ?_⟩
  rw [decide_eq_false (by omega)]
  unfold dyH
  rw [emB_of (f := sdF (C.H a).d) (fun i _ => h.cl a i)]
  rfl
theorem Kd.put {C : CS} {m d : Int} {t : Nat} (h : Kd C m d t) (hi : Ci C) {s : ByteArray} (he : ptE C t 0 s.size = 0) : Kd (ptC C t 0 s) m d (t + 1) := by
  refine ⟨(pt_M _ _ _ _).1.trans h.M, (pt_M _ _ _ _).2.trans h.W, fun a => ?_⟩
  by_cases ea : a = (t : Int)
  · rw [ea, pt_H he, pt_dy _ _ (by omega) (by omega), decide_eq_true (by omega)]
  · have e1 : dyH ((ptC C t 0 s).H a) = dyH (C.H a) := by
      rcases pt_oth hi 0 s ea with e | ⟨e, e2⟩
      · rw [e]
      · rw [e, e2, dy_no]
    rw [e1, h.dy a]
    exact decide_eq_decide.2 (by omega)
theorem nd_len : ∀ (t : Nat) (L : List Int), L.Nodup → (∀ x ∈ L, 0 ≤ x ∧ x < (t : Int)) → L.length ≤ t
  | 0, L, _, h => by
    cases L with
    | nil => simp
    | cons x r => have := h x (by simp); omega
  | t + 1, L, hn, h => by
    have h1 := nd_len t (L.erase (t : Int)) (hn.erase _) (fun x hx => by
      have h2 := (List.Nodup.mem_erase_iff hn).1 hx
      have h3 := h x h2.2
      omega)
    have h4 : L.length ≤ (L.erase (t : Int)).length + 1 := by
      rw [List.length_erase]
      split <;> omega
    omega
theorem nd_ge : ∀ (t : Nat) (L : List Int), L.Nodup → (∀ j : Nat, j < t → (j : Int) ∈ L) → t ≤ L.length
  | 0, L, _, _ => by omega
  | t + 1, L, hn, h => by
    have ht := h t (by omega)
    have h1 := nd_ge t (L.erase (t : Int)) (hn.erase _) (fun j hj => (List.Nodup.mem_erase_iff hn).2 ⟨by omega, h j (by omega)⟩)
    rw [List.length_erase_of_mem ht] at h1
    have : 0 < L.length := List.length_pos_of_mem ht
    omega
theorem fl_below : ∀ (n t : Nat), (fl n (fun j => decide (j < t))).length = min n t
  | 0, t => by simp [fl]
  | n + 1, t => by
    unfold fl
    by_cases e : n < t
    · rw [if_pos (by simpa using e), List.length_append, fl_below n t]
      simp
      omega
    · rw [if_neg (by simpa using e), fl_below n t]
      omega
theorem Kd.keys {C : CS} {m d : Int} {t : Nat} (h : Kd C m d t) (hi : Ci C) (hg : Gd C.S) : t ≤ C.S.P.length + C.S.D.length := by
  rw [← List.length_append]
  refine nd_ge t _ hg.nd (fun j hj => ?_)
  have h1 : dyH (C.H (j : Int)) = true := by rw [h.dy]; exact decide_eq_true (by omega)
  cases e : inT C.S (j : Int) with
  | true => exact in_iff.1 e
  | false => rw [hi.outk e, dy_no] at h1; cases h1
theorem Kd.full {C : CS} {m d : Int} {t : Nat} (h : Kd C m d t) (ht : t < 64) (hi : Ci C) (hg : Gd C.S) (he : usE C t ≠ 0) : ((C.S.P.length + C.S.D.length : Nat) : Int) = m ∧ ((fl 256 (dyS C)).length : Int) = m ∧ (t : Int) = m := by
  have h1 : inT C.S t = false := by
    cases e : inT C.S t with
    | false => rfl
    | true => exact absurd (us_of_in e) he
  unfold usE at he
  rw [h1, if_neg (by decide)] at he
  cases hf : fulB C.S with
  | false => rw [hf] at he; exact absurd rfl he
  | true =>
    rw [hf, if_pos rfl] at he
    cases hv : vcO C.S with
    | some v => rw [hv] at he; exact absurd rfl he
    | none =>
      have h2 := vc_no hv
      have h3 : (C.S.P ++ C.S.D).length ≤ t := nd_len t _ hg.nd (fun x hx => by
        have h4 := h2 x hx
        rw [hi.pin, h.dy] at h4
        exact of_decide_eq_true h4)
      rw [List.length_append] at h3
      have h5 := h.keys hi hg
      have h6 := hg.len
      have h7 : C.S.M ≤ (C.S.P.length : Int) + (C.S.D.length : Int) := by
        unfold fulB at hf
        exact of_decide_eq_true hf
      rw [h.M] at h6 h7
      have h8 : dyS C = fun j => decide (j < t) := by
        funext j
        unfold dyS
        rw [h.dy]
        exact decide_eq_decide.2 (by omega)
      rw [h8, fl_below]
      omega
set_option maxRecDepth 100000 in
set_option maxHeartbeats 8000000 in
theorem walk (w : World) (hT : Tab w) (a0 b0 c0 : Int) (a1 : Value) (l1 : List A4c) (w0 : (Lit.int .i64 a0).wf = true) (x0 : (Lit.int .i64 b0).wf = true) (y0 : (Lit.int .i64 c0).wf = true) (w1 : Acts w a1 l1) :
    Calls Tryd.prog 4 #[.agg #[.int .i64 a0, .int .i64 b0, .int .i64 c0], a1] w fun e w' => e = .returned (.bool true) ∧ Kp w w' := by
  clear w0 x0 y0
  obtain ⟨ma, hma⟩ : ∃ m, m = max 0 a0 := ⟨_, rfl⟩
  have hmaxa : ∀ ts t W, (Builtin.max_ ts t #[.int .i64 0, .int .i64 a0]).run Tryd.prog W = .ok (.int .i64 ma) W := fun ts t W => by rw [hma]; exact imax ts t 0 a0 W
  obtain ⟨mb, hmb⟩ : ∃ m, m = max 0 b0 := ⟨_, rfl⟩
  have hmaxb : ∀ ts t W, (Builtin.max_ ts t #[.int .i64 0, .int .i64 b0]).run Tryd.prog W = .ok (.int .i64 mb) W := fun ts t W => by rw [hmb]; exact imax ts t 0 b0 W
  obtain ⟨mc, hmc⟩ : ∃ m, m = max 0 c0 := ⟨_, rfl⟩
  have hmaxc : ∀ ts t W, (Builtin.max_ ts t #[.int .i64 0, .int .i64 c0]).run Tryd.prog W = .ok (.int .i64 mc) W := fun ts t W => by rw [hmc]; exact imax ts t 0 c0 W
  obtain ⟨ra, hra⟩ : ∃ t : Int, t = ma % 8 := ⟨_, rfl⟩
  have hta : ma.tmod 8 = ra := by rw [Int.tmod_eq_emod_of_nonneg (by omega), hra]
  obtain ⟨m, hm⟩ : ∃ m : Int, m = 1 + ra := ⟨_, rfl⟩
  obtain ⟨rc, hrc⟩ : ∃ t : Int, t = mc % 5 := ⟨_, rfl⟩
  have htc : mc.tmod 5 = rc := by rw [Int.tmod_eq_emod_of_nonneg (by omega), hrc]
  obtain ⟨d, hd⟩ : ∃ m : Int, m = 2 + rc := ⟨_, rfl⟩
  obtain ⟨z, hz⟩ : ∃ t : Int, t = mb % m := ⟨_, rfl⟩
  have htz : mb.tmod m = z := by rw [Int.tmod_eq_emod_of_nonneg (by omega), hz]
  have hmz : (m == 0) = false := by simp; omega
  have hdz : (d == 0) = false := by simp; omega
  have HT : Hid ((1 ≤ m ∧ m ≤ 8) ∧ (2 ≤ d ∧ d ≤ 6) ∧ (0 ≤ z ∧ z < m)) := ⟨by omega, by omega, by rw [hz]; exact ⟨Int.emod_nonneg _ (by omega), Int.emod_lt_of_pos _ (by omega)⟩⟩
  have hm1 : 1 ≤ m := HT.out.1.1
  have hra2 : 0 ≤ ra ∧ ra < 8 := by omega
  have hrc2 : 0 ≤ rc ∧ rc < 5 := by omega
  obtain ⟨pa, pg, po, pc, ln, rfl, hp1, hp2, hpa, hpc⟩ := w1.open
  have HPC := hid hpc
  obtain ⟨kq, ekk⟩ : ∃ k, k = min ln 80 := ⟨_, rfl⟩
  have hmin : ∀ ts t W, (Builtin.min_ ts t #[.int .i64 (ln : Int), .int .i64 80]).run Tryd.prog W = .ok (.int .i64 (kq : Int)) W := fun ts t W => by
    rw [imin ts t _ _ W]
    congr 2
    omega
  have hk1 : kq ≤ ln := by omega
  have hk80 : kq ≤ 80 := by omega
  obtain ⟨W, hW⟩ : ∃ W, W = w.alloc (.cells #[.int .i64 a0, .int .i64 b0, .int .i64 c0] 22) := ⟨_, rfl⟩
  obtain ⟨H, hH⟩ : ∃ H, H = w.heap.size := ⟨_, rfl⟩
  have hB : W.heap[H]? = some (.cells #[.int .i64 a0, .int .i64 b0, .int .i64 c0] 22 (0, 0)) := by rw [hW, hH]; exact new_obj _ _ _
  have e0 := cell_of hB 0
  have e1 := cell_of hB 1
  have e2 := cell_of hB 2
  have HW : Hid (W = w.alloc (.cells #[.int .i64 a0, .int .i64 b0, .int .i64 c0] 22) ∧ H = w.heap.size) := ⟨hW, hH⟩
  have HK : Hid (Kp w W) := by rw [hW]; exact (Kp.refl w).alloc _
  have hN := cnew_ok (m := m) (z := z) (d := d) ⟨HT.out.1.1, by have := HT.out.1.2; omega, HT.out.2.2.1, HT.out.2.2.2⟩ HT.out.2.1.1 (by have := HT.out.2.1.2; omega) W
  clear hpc ekk hma hmb hmc hra hrc hz hW hH hB w1
  go_enter Tryd.func4, Tryd.ntmps4
  go_upto_region 1 with fail
  rw [← HW.out.1, ← HW.out.2]
  clear HW
  go_upto_region 2 with fail
  rw [← hm]
  clear hm hra2 hta hmaxa
  go_upto_region 3 with fail
  rw [← hd]
  clear hd hrc2 htc hmaxc
  go_wp2_with fail
  refine hN.mono ?_; rintro e w1 ⟨c, rfl, u1⟩
  have HU := hid u1
  clear hN u1 e0 e1 e2 htz hmaxb hmz
  go_wp2_with fail
  refine (wakes_any _).mono ?_; rintro e w2 ⟨rfl, k2⟩
  have HU2 : Hid (Ca w w2 c 0 (newC m z d) []) := (HU.out.kp k2).1.base HK.out
  clear k2 HU HK
  have hmm : ∀ (t : TypeId) (W : World), (Instr.makeMap t none).run Tryd.prog W = .ok (.map (some W.heap.size)) (W.alloc (.map #[] 0)) := fun _ _ => rfl
  obtain ⟨w3, hw3⟩ : ∃ V, V = w2.alloc (.map #[] 0) := ⟨_, rfl⟩
  obtain ⟨M, hM⟩ : ∃ V, V = w2.heap.size := ⟨_, rfl⟩
  have H0 : Hid (Ks w w3 c M 0 m d) := by
    have k3 : Kp w2 w3 := by rw [hw3]; exact (Kp.refl w2).alloc _
    refine ⟨_, 0, fun _ _ => none, .map [], HU2.out.more k3 (by omega) (by rw [hw3, hM]; simp), ?_, Nat.le_refl _, Kc.new m z d⟩
    rw [hw3, hM]
    exact MpW.made w2
  have HWM : Hid (w3 = w2.alloc (.map #[] 0) ∧ M = w2.heap.size ∧ w.heap.size ≤ M) := ⟨hw3, hM, by rw [hM]; exact HU2.out.k.size⟩
  clear hw3 hM HU2
  go_upto_region 7 with fail
  rw [← HWM.out.1, ← HWM.out.2.1]
  go_cut [52, 53, 54] (fun p qq i wx => ∃ a', p = .slice a' kq pc ∧ qq = .int .i64 (kq : Int) ∧ i = .int .i64 ((0 : Nat) : Int) ∧ (0 < kq → a' = some ⟨pg, po, none⟩) ∧ w3 = wx)
  case first =>
    by_cases h0 : 0 < ln
    · obtain rfl := hpa h0
      go_wp2_with fail
      go_meet
      exact ⟨_, rfl, rfl, rfl, fun _ => rfl, rfl⟩
    · have hn0 : ln = 0 := by omega
      subst hn0
      obtain rfl : kq = 0 := by omega
      cases pa with
      | none =>
        go_wp2_with fail
        go_meet
        exact ⟨_, rfl, rfl, rfl, fun h => absurd h (by omega), rfl⟩
      | some ad =>
        go_wp2_with fail
        go_meet
        exact ⟨_, rfl, rfl, rfl, fun h => absurd h (by omega), rfl⟩
  case rest =>
  obtain ⟨a', rfl, rfl, rfl, ha', rfl⟩ := hcut
  have HMw : Hid (w.heap.size ≤ M) := HWM.out.2.2
  clear hmin hpa HWM hmm
  go_wp2_with fail
  go_loopw [11, 12, 13, 14, 15, 16, 54] (fun _ _ _ _ _ _ i wr => ∃ (k : Nat), k ≤ kq ∧ i = .int .i64 k ∧ Hid (Ks w wr c M k m d)) (fun _ _ _ _ _ _ i _ => kq - (intOf i).toNat)
  case atStart => exact ⟨0, by omega, by go_num, H0⟩
  case round =>
    clear H0
    obtain ⟨k, hk, rfl, HQ⟩ := hrel
    rename World => wr
    by_cases hlt : k < kq
    · obtain rfl := ha' (by omega)
      have HKR : Hid (Kp w wr) := by obtain ⟨_, _, _, _, q, _⟩ := HQ.out; exact q.k
      obtain ⟨⟨c0, c1, c2, c3, c4⟩, hok⟩ := HPC.out wr HKR.out k (by omega)
      obtain ⟨dd, hdd⟩ : ∃ z, z = (l1.getD k noA).d := ⟨_, rfl⟩
      obtain ⟨ky, hky⟩ : ∃ z, z = (l1.getD k noA).k := ⟨_, rfl⟩
      obtain ⟨kc, hkc⟩ : ∃ z, z = (l1.getD k noA).c := ⟨_, rfl⟩
      obtain ⟨bb, hbb⟩ : ∃ z, z = (l1.getD k noA).b := ⟨_, rfl⟩
      obtain ⟨oo, hoo⟩ : ∃ z, z = (l1.getD k noA).o := ⟨_, rfl⟩
      have hb256 : bb < 256 := by rw [hbb]; exact hok.b
      rw [← hdd] at c0
      rw [← hky] at c1
      rw [← hkc] at c2
      rw [← hbb] at c3
      rw [← hoo] at c4
      obtain ⟨V, hV⟩ : ∃ V, V = wr.alloc (.cells #[.int .i64 dd, .int .i64 ky, .int .i64 kc, .int .u8 (bb : Int), .bool oo] 39) := ⟨_, rfl⟩
      obtain ⟨H2, hH2⟩ : ∃ H, H = wr.heap.size := ⟨_, rfl⟩
      have e0 : V.cell? ⟨H2, 0, none⟩ = some (.int .i64 dd) := by rw [hV, hH2, World.cell?_alloc_at _ _ _ _ rfl]; rfl
      have e1 : V.cell? ⟨H2, 1, none⟩ = some (.int .i64 ky) := by rw [hV, hH2, World.cell?_alloc_at _ _ _ _ rfl]; rfl
      have e2 : V.cell? ⟨H2, 2, none⟩ = some (.int .i64 kc) := by rw [hV, hH2, World.cell?_alloc_at _ _ _ _ rfl]; rfl
      have e3 : V.cell? ⟨H2, 3, none⟩ = some (.int .u8 (bb : Int)) := by rw [hV, hH2, World.cell?_alloc_at _ _ _ _ rfl]; rfl
      have kV : Kp wr V := by rw [hV]; exact (Kp.refl wr).alloc _
      have HV : Hid (V = wr.alloc (.cells #[.int .i64 dd, .int .i64 ky, .int .i64 kc, .int .u8 (bb : Int), .bool oo] 39) ∧ H2 = wr.heap.size) := ⟨hV, hH2⟩
      obtain ⟨s, hs⟩ : ∃ s, s = scS bb false := ⟨_, rfl⟩
      have sS : ∀ W, Calls Tryd.prog 14 #[.int .u8 (bb : Int), .bool false] W fun e w' => e = .returned (.string s) ∧ Kp W w' := fun W => by rw [hs]; exact sector_any bb hb256 false W
      have HSz : Hid (s.size = 64) := by show s.size = 64; rw [hs]; exact scS_size _
      have HX := hid (And.intro HQ.out kV)
      obtain ⟨t, ht⟩ : ∃ t, t = ky % 16 := ⟨_, rfl⟩
      have hmk : bits .and .i64 ky 15 = t := by rw [ht]; exact mask15 ky
      obtain ⟨mk, hmk2⟩ : ∃ m, m = max 0 kc := ⟨_, rfl⟩
      have hmaxk : ∀ ts t W, (Builtin.max_ ts t #[.int .i64 0, .int .i64 kc]).run Tryd.prog W = .ok (.int .i64 mk) W := fun ts t W => by rw [hmk2]; exact imax ts t 0 kc W
      obtain ⟨kk, hkk⟩ : ∃ t : Int, t = mk % d := ⟨_, rfl⟩
      have htk : mk.tmod d = kk := by rw [Int.tmod_eq_emod_of_nonneg (by omega), hkk]
      have hd1 : 1 ≤ d := by have := HT.out.2.1.1; omega
      have HKK : Hid ((0 ≤ t ∧ t < 16) ∧ 0 ≤ kk ∧ kk < d) := ⟨by omega, by rw [hkk]; exact ⟨Int.emod_nonneg _ (by omega), Int.emod_lt_of_pos _ (by omega)⟩⟩
      have hdn : ¬ d = 0 := by omega
      clear hdd hky hkc hbb hoo hV hH2 kV HQ hok hs ht hmk2 hkk hb256
      go_upto_region 10 with fail
      rw [← HV.out.1, ← HV.out.2]
      clear HV c0 c1 c2 c3 c4
      have q1 := kpw_cell e1
      have q2 := kpw_cell e2
      have q3 := kpw_cell e3
      clear e1 e2 e3
      refine wp_region_kp (by kernel_rfl) (by kernel_rfl) ?_
      repeat (first
        | go_big_quiet_skip
        | (go_big_quiet_want; go_big_quiet_op; go_big_quiet_on)
        | (go_big_quiet_want; go_big_quiet_op; apply Exists.intro; refine ⟨fun p => ?_, ?_⟩; (focus (go_at_call 14; with_reducible exact kp_call (sS _))); go_big_quiet_on))
      refine wpQuiet_nil ?_
      rintro V2 ⟨p, hp⟩
      have HX2 : Hid (Ks w V2 c M k m d) := by
        have kp2 : Kp wr V2 := by rw [hp]; exact HX.out.2.trans (kpw_kp V p)
        obtain ⟨C, n, f, D, x1, x2, x3, x4⟩ := HX.out.1
        exact ⟨C, n, f, D, (x1.kp kp2).1, x2.blk ((x1.kp kp2).2 M (by simp)), x3, x4⟩
      have e0 : V2.cell? ⟨H2, 0, none⟩ = some (.int .i64 dd) := by rw [hp]; exact kpw_cell e0 p
      have hm4 := mask3 dd
      obtain ⟨m7, hmm⟩ : ∃ m, m = dd % 4 := ⟨_, rfl⟩
      rw [← hmm] at hm4
      have H7 : Hid (m7 = 0 ∨ m7 = 1 ∨ m7 = 2 ∨ m7 = 3) := by show _ ∨ _; omega
      have HKO : Hid (iOk t ∧ iOk kk) := by
        have := HKK.out
        have := HT.out.2.1
        unfold iOk
        refine ⟨?_, ?_⟩ <;> omega
      clear hp q1 q2 q3 sS hmk hmaxk htk hdn hdz hmm HX
      go_upto_block 2 with fail
      go_cut [72] (fun _ wx => Hid (Ks w wx c M (k + 1) m d))
      case first =>
        rcases H7.out with rfl | rfl | rfl | rfl
        · obtain ⟨C, n, f, D, x1, x2, x3, x4⟩ := HX2.out
          have hC := cput x1 (by omega) t kk s
          by_cases he : ptE C t kk s.size = 0
          · rw [he] at hC
            have HP : Hid (∀ V3, Ca w V3 c (2 * k + 1) (ptC C t kk s) [M] → Lk [M] V2 V3 → Ca w V3 c (2 * k + 1) (ptC C t kk s) [M] ∧ MpW V3 M n f D ∧ n ≤ k ∧ inT (ptC C t kk s).S t = true ∧ Kc (dnC (ptC C t kk s) t) m d (upP f t kk (some s))) := fun V3 u l => ⟨u, x2.blk (l M (by simp)), x3, pt_in x1.g he, x4.put x1.i x1.g he⟩
            clear x1 x2 x3 x4 HX2 he
            go_wp2_with fail
            refine hC.mono ?_; rintro e V3 ⟨rfl, u, l⟩
            obtain ⟨y1, y2, y3, y5, y4⟩ := HP.out V3 u l
            have hDn := cdone y1 (by omega) HKO.out.1
            rw [y5] at hDn
            have HP2 : Hid (∀ V4, Ca w V4 c (2 * k + 1 + 1) (dnC (ptC C t kk s) t) [M] → Lk [M] V3 V4 → Ca w V4 c (2 * k + 1 + 1) (dnC (ptC C t kk s) t) [M] ∧ MpW V4 M n f D ∧ n ≤ k ∧ Kc (dnC (ptC C t kk s) t) m d (upP f t kk (some s))) := fun V4 u l => ⟨u, y2.blk (l M (by simp)), y3, y4⟩
            clear hC u l HP y1 y2 y3 y4 y5
            go_wp2_with fail
            refine hDn.mono ?_; rintro e V4 ⟨rfl, u, l⟩
            obtain ⟨y1, y2, y3, y4⟩ := HP2.out V4 u l
            obtain ⟨wq, D2, hrun, hm, hs⟩ := y2.put HKO.out.1 HKO.out.2 (by omega) s (by have := HSz.out; omega)
            have HY : Hid (Ks w wq c M (k + 1) m d) := ⟨_, n + 1, _, D2, (y1.sp hs (fun t ht => by simp at ht; subst ht; exact ⟨by simp, HMw.out⟩)).up (by omega), hm, by omega, y4⟩
            clear hDn u l HP2 y1 y2 y3 y4 hm hs
            go_wp2
            go_meet
            exact HY
          · have HP : Hid (∀ V3, Ca w V3 c (2 * k + 1) (ptC C t kk s) [M] → Lk [M] V2 V3 → Ks w V3 c M (k + 1) m d) := fun V3 u l => ⟨_, n, f, D, u.up (by omega), x2.blk (l M (by simp)), by omega, x4.putno he⟩
            obtain ⟨E, hE⟩ : ∃ E, E = ptE C t kk s.size := ⟨_, rfl⟩
            rw [← hE] at hC he
            have heb : (E == 0) = false := by simpa using he
            clear x1 x2 x3 x4 HX2 he hE
            go_wp2_with fail
            refine hC.mono ?_; rintro e V3 ⟨rfl, u, l⟩
            have HY := hid (HP.out V3 u l)
            clear hC u l HP
            go_wp2
            go_meet
            exact HY
        · obtain ⟨C, n, f, D, x1, x2, x3, x4⟩ := HX2.out
          have hC := cfill x1 (by omega) t kk s
          by_cases he : ptE C t kk s.size = 0
          · rw [he] at hC
            have HP : Hid (∀ V3, Ca w V3 c (2 * k + 1) (flC C t kk s) [M] → Lk [M] V2 V3 → Ca w V3 c (2 * k + 1) (flC C t kk s) [M] ∧ MpW V3 M n f D ∧ n ≤ k ∧ Kc (flC C t kk s) m d (upP f t kk (some s))) := fun V3 u l => ⟨u, x2.blk (l M (by simp)), x3, x4.fill x1.i he⟩
            clear x1 x2 x3 x4 HX2 he
            go_wp2_with fail
            refine hC.mono ?_; rintro e V4 ⟨rfl, u, l⟩
            obtain ⟨y1, y2, y3, y4⟩ := HP.out V4 u l
            obtain ⟨wq, D2, hrun, hm, hs⟩ := y2.put HKO.out.1 HKO.out.2 (by omega) s (by have := HSz.out; omega)
            have HY : Hid (Ks w wq c M (k + 1) m d) := ⟨_, n + 1, _, D2, (y1.sp hs (fun t ht => by simp at ht; subst ht; exact ⟨by simp, HMw.out⟩)).up (by omega), hm, by omega, y4⟩
            clear hC u l HP y1 y2 y3 y4 hm hs
            go_wp2
            go_meet
            exact HY
          · have HP : Hid (∀ V3, Ca w V3 c (2 * k + 1) (flC C t kk s) [M] → Lk [M] V2 V3 → Ks w V3 c M (k + 1) m d) := fun V3 u l => ⟨_, n, f, D, u.up (by omega), x2.blk (l M (by simp)), by omega, x4.fillno he⟩
            obtain ⟨E, hE⟩ : ∃ E, E = ptE C t kk s.size := ⟨_, rfl⟩
            rw [← hE] at hC he
            have heb : (E == 0) = false := by simpa using he
            clear x1 x2 x3 x4 HX2 he hE
            go_wp2_with fail
            refine hC.mono ?_; rintro e V3 ⟨rfl, u, l⟩
            have HY := hid (HP.out V3 u l)
            clear hC u l HP
            go_wp2
            go_meet
            exact HY
        · obtain ⟨C, n, f, D, x1, x2, x3, x4⟩ := HX2.out
          have hC := cdrop x1 HKO.out.1
          have HP : Hid (∀ V3, Ca w V3 c (2 * k) (dpC C t) [M] → Lk [M] V2 V3 → Ks w V3 c M (k + 1) m d) := fun V3 u l => ⟨_, n, f, D, u.up (by omega), x2.blk (l M (by simp)), by omega, x4.drop t⟩
          clear x1 x2 x3 x4 HX2
          go_wp2_with fail
          refine hC.mono ?_; rintro e V3 ⟨rfl, u, l⟩
          have HY := hid (HP.out V3 u l)
          clear hC u l HP
          go_wp2
          go_meet
          exact HY
        · have HY : Hid (Ks w V2 c M (k + 1) m d) := by
            obtain ⟨C, n, f, D, x1, x2, x3, x4⟩ := HX2.out
            exact ⟨C, n, f, D, x1.up (by omega), x2, by omega, x4⟩
          clear HX2
          go_wp2_with fail
          go_meet
          exact HY
      case rest =>
      rename World => y2
      rename Hid (Ks w y2 c M (k + 1) m d) => HZ
      obtain ⟨C, n, f, D, x1, x2, x3, x4⟩ := HZ.out
      have hG := cget x1 HKO.out.1 kk
      obtain ⟨v, hv⟩ : ∃ v, v = (C.H t).n kk := ⟨_, rfl⟩
      obtain ⟨b, hb⟩ : ∃ b, b = isS v := ⟨_, rfl⟩
      rw [← hv, ← hb] at hG
      have HP : Hid (∀ V3, Ca w V3 c (2 * (k + 1)) (gtC C t kk) [M] → Lk [M] y2 V3 → MpW V3 M n f D ∧ (b = true → f t kk = some v) ∧ Ks w V3 c M (k + 1) m d) := fun V3 u l => ⟨x2.blk (l M (by simp)), fun e => by rw [hv]; exact x4.f t kk (by rw [← hv, ← hb]; exact e), _, n, f, D, u, x2.blk (l M (by simp)), x3, x4.get t kk⟩
      clear x1 x2 x3 x4 HZ HX2 e0 hm4 H7 HKK HSz HKR hv hb
      go_wp2_with fail
      refine hG.mono ?_; rintro e V3 ⟨rfl, u, l⟩
      obtain ⟨y1, y2', y3⟩ := HP.out V3 u l
      have HY := hid y3
      cases b with
      | true =>
        have hlk := y1.look HKO.out.1 HKO.out.2
        rw [y2' rfl] at hlk
        rw [show (some v).getD noS = v from rfl] at hlk
        clear hG u l HP y1 y2' y3 HKO
        go_wp2
        go_roundw
        case rel => exact ⟨k + 1, by omega, by go_num, HY⟩
        case measure => simp [intOf]; omega
      | false =>
        clear hG u l HP y1 y2' y3 HKO
        go_wp2
        go_roundw
        case rel => exact ⟨k + 1, by omega, by go_num, HY⟩
        case measure => simp [intOf]; omega
    · obtain rfl : k = kq := by omega
      have H2 : Hid (∃ C, Ca w wr c (2 * k + 0) C [M] ∧ Kd C m d 0) := by
        obtain ⟨C, n, f, D, x1, x2, x3, x4⟩ := HQ.out
        exact ⟨C, x1, x4.kd⟩
      clear HQ HPC ha'
      go_wp2_with fail
      go_loopw [17, 18, 19, 126] (fun _ _ _ i wx => ∃ (t : Nat), t ≤ 64 ∧ i = .int .i64 t ∧ Hid (∃ C, Ca w wx c (2 * k + t) C [M] ∧ Kd C m d t)) (fun _ _ _ i _ => 64 - (intOf i).toNat)
      case atStart => exact ⟨0, by omega, by go_num, H2⟩
      case round =>
        clear H2
        obtain ⟨t, ht, rfl, HQ⟩ := hrel
        rename World => wo
        by_cases ht64 : t < 64
        · obtain ⟨s, hs⟩ : ∃ s, s = scS t false := ⟨_, rfl⟩
          have sS : ∀ W, Calls Tryd.prog 14 #[.int .u8 (t : Int), .bool false] W fun e w' => e = .returned (.string s) ∧ Kp W w' := fun W => by rw [hs]; exact sector_any t (by omega) false W
          have hsz : s.size = 64 := by rw [hs]; exact scS_size _
          obtain ⟨C, x1, x4⟩ := HQ.out
          have hrf : rfE C t 0 s.size = 0 := rf_ok.2 ⟨by omega, by rw [x4.W]; have := HT.out.2.1.1; omega, hsz⟩
          have hpt : ptE C t 0 s.size = usE C t := pt_us hrf
          have hwr : IntKind.u8.wrap (t : Int) = (t : Int) := by rw [IntKind.wrap_u8]; omega
          have HPT : Hid (∀ w1, Kp wo w1 → Calls Tryd.prog 9 #[.pointer (some ⟨c, 0, none⟩), .int .i64 t, .int .i64 0, .string s] w1 fun e w' => e = .returned (.int .i64 (usE C t)) ∧ Ca w w' c (2 * k + t + 1) (ptC C t 0 s) [M] ∧ Lk [M] w1 w') := fun w1 k1 => by
            have := cput (x1.kp k1).1 (by omega) t 0 s
            rwa [hpt] at this
          by_cases he : usE C t = 0
          · have HP : Hid (∀ w1, Ca w w1 c (2 * k + t + 1) (ptC C t 0 s) [M] → ∃ C, Ca w w1 c (2 * k + (t + 1)) C [M] ∧ Kd C m d (t + 1)) := fun w1 u => ⟨_, u, x4.put x1.i (by rw [hpt]; exact he)⟩
            rw [he] at HPT
            clear x1 x4 hrf hpt he hs hsz HQ
            go_wp2_with fail
            refine (sS _).mono ?_; rintro e v1 ⟨rfl, k1⟩
            have hC := HPT.out v1 k1
            clear sS HPT k1
            go_wp2_with fail
            refine hC.mono ?_; rintro e v2 ⟨rfl, u, _⟩
            have HY := hid (HP.out v2 u)
            clear hC u HP
            go_wp2
            go_roundw
            case rel => exact ⟨t + 1, by omega, by go_num, HY⟩
            case measure => simp [intOf]; omega
          · have h10 := (us_is C t).resolve_left he
            obtain ⟨f1, f2, f3⟩ := x4.full ht64 x1.i x1.g he
            have hpn : ptC C t 0 s = C := pt_no (by rw [hpt]; exact he)
            have HF : Hid (∀ w1, Kp w w1 → Ca w w1 c (2 * k + t + 1) C [M] → Calls Tryd.prog 21 #[.pointer (some ⟨c, 0, none⟩)] w1 fun e w' => e = .returned (.tuple #[.int .i64 m, .int .i64 m]) ∧ Kp w1 w') := fun w1 k1 u => by
              have := clen u (hT.kp k1)
              rwa [f1, f2] at this
            rw [h10, hpn] at HPT
            have hge : (t : Int) ≥ m := by omega
            have hmm : (m == m) = true := by simp
            clear x1 x4 hrf hpt he hs hsz HQ h10 f1 f2 f3 hpn
            go_wp2_with fail
            refine (sS _).mono ?_; rintro e v1 ⟨rfl, k1⟩
            have hC := HPT.out v1 k1
            clear sS HPT k1
            go_wp2_with fail
            refine hC.mono ?_; rintro e v2 ⟨rfl, u, _⟩
            have hL := HF.out v2 u.k u
            have HK := hid u.k
            clear hC u HF
            go_wp2_with fail
            refine hL.mono ?_; rintro e v3 ⟨rfl, k3⟩
            have HE := hid (HK.out.trans k3)
            clear hL k3 HK
            go_wp2
            go_ret
            exact ⟨rfl, HE.out⟩
        · exfalso
          obtain ⟨C, x1, x4⟩ := HQ.out
          have h1 := x4.keys x1.i x1.g
          have h2 := x1.g.len
          rw [x4.M] at h2
          have := HT.out.1.2
          omega

set_option maxRecDepth 100000 in
theorem lifted (os : Os) (started : os.Started) (H : Type) (enc : TypeId × Value → H) :
    ReturnsInHanded {} Tryd.checked os 4 .any (fun w args => (Rows.cacheCleanSpec.pre enc Tryd.prog Tryd.f4 [] false w args ∧ laidMetH Tryd.prog lz w) ∧ sizedMet enc Tryd.prog Tryd.f4 (OpenSpec.ofChange Rows.cacheCleanSpec) false w args)
      (Rows.cacheCleanSpec.post enc Tryd.prog Tryd.f4 false true false false) := by
  refine returnsInHanded_of_change_and (C := Tryd.checked) (X := fun w _ => laidMetH Tryd.prog lz w) (fun _ _ _ hh h => h.of_heap hh) own started (by kernel_rfl) Tryd.func4
    (ChangeSpec.witness_shaped (enc := enc) (C := Tryd.checked) (os := os) (X := fun w _ => laidMetH Tryd.prog lz w) false (World.doorLaid Tryd.prog 400 os) #[.agg #[.int .i64 0, .int .i64 0, .int .i64 0], .slice none 0 0] 8 rfl (World.shaped_of_RefB (by kernel_rfl) (by kernel_rfl)) (by kernel_rfl) (by kernel_rfl) (by kernel_rfl) (door_met os _)) ?_
  intro W base args ds gs before hval0 hW hcnd _ hL _
  have hval : ∀ (j : Nat) t v, Tryd.f4.params[j]? = some t → args[j]? = some v → Value.okWide Tryd.prog W .any base t v := hval0
  have hW' := hW
  have hlt := hW.lt
  obtain ⟨p, q, hA0, hV, rfl, hfz, hnd⟩ := hW
  have hA : DataW.TrodAll enc Tryd.prog W 0 (fun _ => true) true Tryd.f4.params.toList args.toList ds p := hA0
  have hAk := hA
  rw [Tryd.params4] at hA hval
  obtain ⟨v0, vs0, d0, ds0, p0, q0, hargs, rfl, rfl, h0, r0⟩ := trodAll_cons hA
  obtain ⟨v1, vs1, d1, ds1, p1, q1, rfl, rfl, rfl, h1, r1⟩ := trodAll_cons r0
  obtain ⟨rfl, rfl, rfl⟩ := trodAll_nil r1
  obtain rfl : args = #[v0, v1] := by cases args; simp_all
  obtain ⟨rfl, rfl⟩ := trodVars_none hV
  obtain ⟨a0, b0, c0, rfl, w0, x0, y0⟩ := open_ints3 Tryd.underlying22 Tryd.underlying3 cellsI cellsK (hval 0 22 v0 rfl rfl) h0
  obtain ⟨l1, w1⟩ := open_as24 (hval 1 23 v1 rfl rfl) h1
  clear hA0 hval0
  simp only [List.append_nil] at hW' hAk hlt
  have hwk := walk W (of_laid hL) a0 b0 c0 v1 l1 w0 x0 y0 w1
  refine hwk.mono fun e W' ⟨he, hg⟩ => ?_
  subst he
  exact ⟨_, rfl, post_kp (pv := []) hW' (fun _ _ _ => (trodAll_cons_mk (shut_bool Tryd.underlying4 _) trodAll_mk0)) (fun sp hsp => trodAll_stays laidOut (by rw [Tryd.params4]; exact of_decide_eq_true (by kernel_rfl)) hAk (fun x hx => Below.same hg (hlt x hx)) hsp) (fun _ _ => rfl) (by simp) hg⟩

theorem over : Rows.cacheCleanRow.holds Tryd.pinned (OpenSpec.ofChange Rows.cacheCleanSpec) :=
  OpenClaim.holds_of_wide 4 Tryd.f4 rfl rfl rfl rfl rfl rfl rfl ⟨rfl, rfl, rfl, rfl, rfl⟩ rfl rfl rfl rfl rfl (by kernel_rfl) Tryd.func4 (by kernel_rfl)
    (of_decide_eq_true (by kernel_rfl)) (by unfold Func.isWrapper; first | (rw [if_pos (by decide +kernel)]; kernel_rfl) | (rw [if_neg (by decide +kernel)]; exact ⟨rfl, rfl⟩))
    (fun os started H enc _ => lifted os started H enc)

theorem card : Claim7.holds Tryd.pinned (.plain (OpenSpec.ofChange Rows.cacheCleanSpec)) Rows.cacheCleanCard :=
  Claim7.holds_tied_plain_at .later [] [.data] true Rows.cacheCleanCard.stood.harness false
    over (fun _ h => by cases h) (by kernel_rfl) (fun _ h => by cases h) cacheClean_row_tie rfl ⟨rfl, rfl⟩ (by kernel_rfl) rfl
    (fun f fn hf hfn => by
      have e : some f = some 4 := hf.symm.trans (by kernel_rfl)
      obtain rfl := Option.some.inj e
      obtain rfl : fn = Tryd.f4 := (Option.some.inj (Tryd.func4.symm.trans hfn)).symm
      exact ⟨by kernel_rfl, fun j t ht => by
        rw [Tryd.params4] at ht
        have hm : t ∈ [22, 23] := by simpa using Array.mem_of_getElem? ht
        have hall : ([22, 23].all fun u => !Tryd.prog.wantsStandIn u) = true := by kernel_rfl
        exact (show Tryd.prog.wantsStandIn t = false by simpa using List.all_eq_true.1 hall t hm)⟩)
    (by kernel_rfl)

end Go.Proofs.YtncdidklgpmefaaDoor.cacheClean
namespace Go.Proofs.YtncdidklgpmefaaDoor
theorem cacheClean_holds : Rows.CacheCleanCardSaid := cacheClean.card
end Go.Proofs.YtncdidklgpmefaaDoor
