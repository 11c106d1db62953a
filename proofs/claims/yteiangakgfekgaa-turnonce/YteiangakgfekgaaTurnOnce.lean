/-
  TurnOnce: for every input the law answers true, and its arguments read as before. No condition.
-/
import Derived.Test.YteiangakgfekgaaRows
import Derived.Test.YteiangakgfekgaaBufArgs
import Derived.Test.YteiangakgfekgaaTuRun
import Derived.WalkKit
import Derived.ProofKit
import Derived.OpenShut
import Derived.ShutString
import Derived.Deep.QuietTactic
import Derived.BigQuiet
import Derived.Deep.RegionWith
import Derived.Deep.RegionHeld3
import Derived.Deep.DeepCutAuto
import Derived.Deep.CutBlock
namespace Go.Proofs.Yteiangakgfekgaa.turnOnce
open Go.ChangeShapes Go.WideShapes Go.ChangeAt Go.RowKit
open Go.ChangeMaps (open_string shut_string)
open Go.Proofs.Yteiangakgfekgaa Plain
set_option linter.unusedVariables false

theorem own : ownKnob Try.prog.godebug = none := by kernel_rfl
theorem laidOut : laidOutB Try.prog = true := by kernel_rfl
theorem cellsI : Try.prog.cellsOf 3 = 1 := by kernel_rfl
theorem cellsJ : Try.prog.cellsOf 45 = 2 := by kernel_rfl
theorem in_all {S : TS} {k : Int} (h : vcO S = some k) : inT S k = true := in_iff.2 (vc_in h).1
theorem dr_mem {S : TS} (hg : Gd S) {k : Int} (hk : inT S k = true) (j : Int) : j ∈ (drS S k).P ++ (drS S k).D ↔ j ∈ S.P ++ S.D ∧ j ≠ k := by
  have hp := tk_perm hg (in_iff.1 hk)
  have hn := List.nodup_cons.1 (hp.nodup_iff.1 hg.nd)
  unfold drS
  rw [if_pos hk]
  show j ∈ (tkS S k).P ++ (tkS S k).D ↔ _
  rw [hp.mem_iff, List.mem_cons]
  constructor
  · intro h
    exact ⟨.inr h, fun e => by subst e; exact hn.1 h⟩
  · rintro ⟨h | h, h2⟩
    · exact absurd h h2
    · exact h
theorem dr_card {S : TS} (hg : Gd S) {k : Int} (hk : inT S k = true) : (drS S k).P.length + (drS S k).D.length + 1 = S.P.length + S.D.length := by
  have := dr_len hg (in_iff.1 hk)
  unfold drS
  rw [if_pos hk]
  exact this
theorem vc_zero {S : TS} (h : S.P.length + S.D.length = 0) : vcO S = none := by
  have h1 : S.P = [] := List.eq_nil_of_length_eq_zero (by omega)
  have h2 : S.D = [] := List.eq_nil_of_length_eq_zero (by omega)
  unfold vcO
  rw [h1, h2]
  rfl
set_option maxRecDepth 100000 in
set_option maxHeartbeats 8000000 in
theorem walk (w : World) (a0 b0 : Int) (a1 : Value) (l1 : List A3) (w0 : (Lit.int .i64 a0).wf = true) (x0 : (Lit.int .i64 b0).wf = true) (w1 : Acts w a1 l1) :
    Calls Try.prog 4 #[.agg #[.int .i64 a0, .int .i64 b0], a1] w fun e w' => e = .returned (.bool true) ∧ Kp w w' := by
  clear w0 x0
  obtain ⟨mx, hmx⟩ : ∃ mx, mx = max 0 a0 := ⟨_, rfl⟩
  have hmax : ∀ ts t W, (Builtin.max_ ts t #[.int .i64 0, .int .i64 a0]).run Try.prog W = .ok (.int .i64 mx) W := fun ts t W => by rw [hmx]; exact imax ts t 0 a0 W
  obtain ⟨r, hr⟩ : ∃ r : Int, r = mx % 20 := ⟨_, rfl⟩
  have htm : mx.tmod 20 = r := by rw [Int.tmod_eq_emod_of_nonneg (by omega), hr]
  have hr0 : 0 ≤ r ∧ r < 20 := by omega
  obtain ⟨hr1, hr2⟩ := hr0
  have HR : Hid (1 + r = 1 + max 0 a0 % 20) := by show 1 + r = 1 + max 0 a0 % 20; rw [hr, hmx]
  have hmm : ∀ (t : TypeId) (W : World), (Instr.makeMap t none).run Try.prog W = .ok (.map (some W.heap.size)) (W.alloc (.map #[] 0)) := fun _ _ => rfl
  obtain ⟨W, hW⟩ : ∃ W, W = w.alloc (.cells #[.int .i64 a0, .int .i64 b0] 45) := ⟨_, rfl⟩
  obtain ⟨H, hH⟩ : ∃ H, H = w.heap.size := ⟨_, rfl⟩
  have hB : W.heap[H]? = some (.cells #[.int .i64 a0, .int .i64 b0] 45 (0, 0)) := by rw [hW, hH]; exact new_obj _ _ _
  have e0 := cell_of hB 0
  have e1 := cell_of hB 1
  have HW : Hid (W = w.alloc (.cells #[.int .i64 a0, .int .i64 b0] 45) ∧ H = w.heap.size) := ⟨hW, hH⟩
  have kW : Kp w W := by rw [hW]; exact (Kp.refl w).alloc _
  have HK := hid kW
  have hRn := run_any a0 b0 a1 l1 W (w1.kept kW)
  obtain ⟨pa, pg, po, pc, ln, rfl, _⟩ := w1.open
  clear hmx hr hW hH hB kW w1
  go_enter Try.func4, Try.ntmps4
  go_upto_region 1 with fail
  rw [← HW.out.1, ← HW.out.2]
  clear HW
  go_wp2_with fail
  refine hRn.mono ?_; rintro e w2 ⟨a, S, rfl, u2, r2⟩
  have c0 := u2.k.held e0
  have hL := u2.len
  have HU := hid (And.intro u2 r2)
  clear hRn e0 e1 u2 r2
  go_wp2_with fail
  refine hL.mono ?_; rintro e w3 ⟨rfl, k3⟩
  have c0 := k3.held c0
  have u3 := (HU.out.1.kp k3).1
  have HU3 := hid (And.intro u3 HU.out.2)
  obtain ⟨p, hp⟩ : ∃ p, p = (S.P.length : Int) + (S.D.length : Int) := ⟨_, rfl⟩
  obtain ⟨d, hd⟩ : ∃ d, d = (S.D.length : Int) := ⟨_, rfl⟩
  obtain ⟨z, hz⟩ : ∃ z, z = S.Z := ⟨_, rfl⟩
  have hg := u3.g
  have hb1 : d ≤ z := by rw [hd, hz]; exact hg.dl
  have hb2 : p ≤ 1 + r := by rw [hp, HR.out, ← HU.out.2.M]; exact hg.len
  have hb3 : 0 ≤ p ∧ p ≤ 64 := by have := hg.len; have := hg.m2; omega
  obtain ⟨hb4, hb5⟩ := hb3
  rw [← hp, ← hd, ← hz]
  have HP := hid hp
  clear hL k3 u3 HU hg hd hz hp
  go_wp2_with fail
  refine (wakes_any w3).mono ?_; rintro e w4 ⟨rfl, k4⟩
  have c0 := k4.held c0
  have u4 := (HU3.out.1.kp k4).1
  have hO := u4.order
  have HU4 := hid (And.intro u4 HU3.out.2)
  clear k4 u4 HU3
  go_wp2_with fail
  refine hO.mono ?_; rintro e w5 ⟨v, rfl, ho, k5⟩
  obtain ⟨pv, cv, hvs⟩ := ho.shape
  obtain ⟨l, hl⟩ : ∃ l, l = S.P ++ S.D := ⟨_, rfl⟩
  rw [← hl] at hvs
  obtain ⟨n, hn⟩ : ∃ n, n = l.length := ⟨_, rfl⟩
  rw [← hn] at hvs
  have hnp : (n : Int) = p := by rw [hn, hl, List.length_append, HP.out]; omega
  have hnp2 : ((n : Int) != p) = false := by simp [hnp]
  have HU5 := hid (And.intro (HU4.out.1.kp k5).1 HU4.out.2)
  have HL := hid (And.intro hl (And.intro hn hnp))
  subst hvs
  have hn64 : n ≤ 64 := by omega
  clear hO ho k5 HU4 hl hn hnp c0
  obtain ⟨U, hU⟩ : ∃ U, U = w5.alloc (.map #[] 0) := ⟨_, rfl⟩
  obtain ⟨Mb, hM⟩ : ∃ M, M = w5.heap.size := ⟨_, rfl⟩
  have kU : Kp w5 U := by rw [hU]; exact (Kp.refl w5).alloc _
  have hM0 : MpB U Mb 0 0 (fun _ => false) (.map []) := by rw [hU, hM]; exact MpB.made w5
  have hMw : W.heap.size ≤ Mb := by rw [hM]; exact HU5.out.1.k.size
  have HU6 := hid (And.intro (HU5.out.1.more kU (by omega) hM0.lt) (And.intro hM0 HU5.out.2))
  have HV : Hid (U = w5.alloc (.map #[] 0) ∧ Mb = w5.heap.size) := ⟨hU, hM⟩
  have HMw := hid hMw
  clear hU hM kU hM0 hMw HU5
  go_upto_region 6 with fail
  rw [← HV.out.1, ← HV.out.2]
  clear HV
  have hO := HU6.out.1.order
  go_wp2_with fail
  refine hO.mono ?_; rintro e w6 ⟨v, rfl, ho, k6⟩
  obtain ⟨u6, j6⟩ := HU6.out.1.kp k6
  have m6 := HU6.out.2.1.blk (j6 Mb (by simp))
  rw [← HL.out.1] at ho
  have hMv : v.ownBlock ≠ some Mb := fun e => by have := (ho.lt Mb e).1; have := HU6.out.2.1.lt; omega
  obtain ⟨pv2, cv2, hvs⟩ := ho.shape
  rw [← HL.out.2.1] at hvs
  have H0 : Hid (Tu W w6 a S [Mb] ∧ MpB w6 Mb 0 0 (fun j => decide (j ∈ l.take 0)) (.map []) ∧ OwnI w6 U.heap.size v l) := ⟨u6, by simpa using m6, ho⟩
  have HN := hid (And.intro hMv (And.intro hvs HU6.out.2.2))
  rw [hvs]
  clear hO ho k6 u6 j6 m6 hMv HU6 hvs
  go_wp2_with fail
  go_loopw [12, 13, 14, 66] (fun _ _ _ i wr => ∃ (k : Nat) (D : DataW Unit), k ≤ n ∧ i = .int .i64 k ∧ Hid (Tu W wr a S [Mb] ∧ MpB wr Mb k k (fun j => decide (j ∈ l.take k)) D ∧ OwnI wr U.heap.size v l)) (fun _ _ _ i _ => n - (intOf i).toNat)
  case atStart => exact ⟨0, _, by omega, rfl, H0⟩
  case round =>
    clear H0
    obtain ⟨k, D, hk, rfl, HQ⟩ := hrel
    rename World => wr
    by_cases hlt : k < n
    · have hil : k < l.length := by have := HL.out.2.1; omega
      have hI := HQ.out.2.2.ints
      obtain ⟨q1, g, q2, q3, q4, q5, q6, q7, q8⟩ := hI
      rw [HN.out.2.1] at q3
      have e2 := q6 (by omega)
      have hq : pv2 = some ⟨g, 0, none⟩ := by
        have e3 : pv2 = q1 := by simp at q3; exact q3.1
        rw [e3, e2]
      subst hq
      have d0 := q8 k hil
      obtain ⟨y, hy⟩ : ∃ y, y = l.getD k 0 := ⟨_, rfl⟩
      rw [← hy] at d0
      have hk3 : (k : Int) < (n : Int) := by omega
      have hym : y ∈ l := by rw [at_split hil, ← hy]; simp
      have hyS : y ∈ S.P ++ S.D := by rw [← HL.out.1]; exact hym
      have hyo : iOk y := HQ.out.1.g.ok y hyS
      have hnd : l.Nodup := by rw [HL.out.1]; exact HQ.out.1.g.nd
      have hyt : y ∉ l.take k := by
        have h1 := hnd
        rw [at_split hil, ← hy, List.nodup_append] at h1
        intro h2
        exact h1.2.2 y h2 y (by simp) rfl
      have hHas := HQ.out.1.has y
      rw [in_iff.2 hyS] at hHas
      have hlk := HQ.out.2.1.look hyo
      rw [decide_eq_false hyt] at hlk
      obtain ⟨w7, D', hup, m7, s7⟩ := HQ.out.2.1.put hyo (by omega)
      simp only [decide_eq_false hyt, Bool.false_eq_true, if_false] at m7
      have HQ2 : Hid (Tu W w7 a S [Mb] ∧ MpB w7 Mb (k + 1) (k + 1) (fun j => decide (j ∈ l.take (k + 1))) D' ∧ OwnI w7 U.heap.size v l) := by
        refine ⟨HQ.out.1.sp s7 (fun t ht => by simp at ht; subst ht; exact ⟨by simp, HMw.out⟩), ?_, HQ.out.2.2.sp s7 (fun g hg e => HN.out.1 (by simp at e; rw [← e]; exact hg))⟩
        have ef : (fun j => decide (j ∈ l.take (k + 1))) = (fun j => if j = y then true else decide (j ∈ l.take k)) := by
          funext j
          rw [take_next hil, ← hy]
          by_cases e : j = y <;> simp [e]
        rw [ef]
        exact m7
      clear q3 q4 q5 q6 q7 q8 e2 hy hym hyS hyo hnd hyt m7 s7 HQ hil
      go_wp2_with fail
      refine hHas.mono ?_; rintro e w8 ⟨rfl, rfl⟩
      clear hHas
      go_wp2
      go_roundw
      case rel => exact ⟨k + 1, D', by omega, by go_num, HQ2⟩
      case measure => simp [intOf]; omega
    · obtain rfl : k = n := by omega
      have hlt : l.take k = l := List.take_of_length_le (by have := HL.out.2.1; omega)
      have H1 : Hid (∃ (S' : TS) (c : Nat) (D : DataW Unit), Tu W wr a S' [Mb] ∧ MpB wr Mb k c (fun j => decide (j ∈ S'.P ++ S'.D)) D ∧ c = S'.P.length + S'.D.length ∧ S'.P.length + S'.D.length + 0 ≤ k) := by
        have hq := HQ.out.2.1
        rw [hlt, HL.out.1] at hq
        have hq2 : k = S.P.length + S.D.length := by have h1 := HL.out.2.1; rw [HL.out.1, List.length_append] at h1; exact h1
        exact ⟨S, k, D, HQ.out.1, hq, hq2, by omega⟩
      have hkp : p = (k : Int) := HL.out.2.2.symm
      clear hlt HQ HN HL HP hnp2 hb1 hb2 hmax htm
      subst hkp
      go_wp2_with fail
      go_loopw [15, 16, 17, 18, 87] (fun _ _ _ _ i wx => ∃ q : Nat, q ≤ k ∧ i = .int .i64 q ∧ Hid (∃ (S' : TS) (c : Nat) (D : DataW Unit), Tu W wx a S' [Mb] ∧ MpB wx Mb k c (fun j => decide (j ∈ S'.P ++ S'.D)) D ∧ c = S'.P.length + S'.D.length ∧ S'.P.length + S'.D.length + q ≤ k)) (fun _ _ _ _ i _ => k - (intOf i).toNat)
      case atStart => exact ⟨0, by omega, rfl, H1⟩
      case round =>
        clear H1
        obtain ⟨q, hq, rfl, HQ⟩ := hrel
        obtain ⟨S, c, D, u1, m1, hc, hlen⟩ := HQ.out
        rename World => wx
        by_cases hqk : q < k
        · have hqk2 : (q : Int) < (k : Int) := by omega
          have hV := u1.victim
          have H1 := hid (And.intro u1 (And.intro m1 (And.intro hc hlen)))
          clear HQ u1 m1 hc hlen
          cases hv : vcO S with
          | none =>
            rw [hv] at hV
            have HV := hid hv
            clear hv
            go_wp2_with fail
            refine hV.mono ?_; rintro e v1 ⟨rfl, k1⟩
            obtain ⟨u1, j1⟩ := H1.out.1.kp k1
            have HF : Hid (Tu W v1 a S [Mb] ∧ MpB v1 Mb k c (fun j => decide (j ∈ S.P ++ S.D)) D ∧ c = S.P.length + S.D.length ∧ vcO S = none) := ⟨u1, H1.out.2.1.blk (j1 Mb (by simp)), H1.out.2.2.1, HV.out⟩
            clear hV k1 u1 j1 H1 HV
            have hV := HF.out.1.victim
            rw [HF.out.2.2.2] at hV
            have H3 := hid (And.intro HF.out.1 (And.intro HF.out.2.1 HF.out.2.2.1))
            clear HF
            go_wp2_with fail
            refine hV.mono ?_; rintro e v2 ⟨rfl, k2⟩
            obtain ⟨u2, j2⟩ := H3.out.1.kp k2
            have m2 := H3.out.2.1.blk (j2 Mb (by simp))
            have hL := u2.len
            have H4 := hid (And.intro u2 (And.intro m2 H3.out.2.2))
            clear hV k2 u2 j2 m2 H3
            go_wp2_with fail
            refine hL.mono ?_; rintro e v3 ⟨rfl, k3⟩
            obtain ⟨u3, j3⟩ := H4.out.1.kp k3
            have m3 := H4.out.2.1.blk (j3 Mb (by simp))
            have hln := m3.len
            obtain ⟨zz, hzz⟩ : ∃ zz : Int, zz = (c : Int) := ⟨_, rfl⟩
            have hz2 : (S.P.length : Int) + (S.D.length : Int) = zz := by have := H4.out.2.2; omega
            rw [hz2]
            rw [← hzz] at hln
            have HE := hid (HK.out.trans u3.k)
            clear hL k3 u3 j3 m3 H4 hz2 hzz
            go_wp2
            go_ret
            exact ⟨by simp, HE.out⟩
          | some y =>
            have hy : vcK S = y := by unfold vcK; rw [hv]; rfl
            rw [hv, hy] at hV
            have hin := in_all hv
            have hyo : iOk y := H1.out.1.g.ok y (in_iff.1 hin)
            have HY := hid (And.intro hin hyo)
            clear hv hy hin hyo
            go_wp2_with fail
            refine hV.mono ?_; rintro e v1 ⟨rfl, k1⟩
            obtain ⟨u1, j1⟩ := H1.out.1.kp k1
            have m1 := H1.out.2.1.blk (j1 Mb (by simp))
            have hHas := u1.has y
            have hDr := u1.drop y
            rw [HY.out.1] at hHas hDr
            have HM := hid (And.intro m1 u1.g)
            clear hV k1 j1 m1 u1
            go_wp2_with fail
            refine hHas.mono ?_; rintro e v2 ⟨rfl, rfl⟩
            clear hHas
            go_wp2_with fail
            refine hDr.mono ?_; rintro e v3 ⟨rfl, u3, j3⟩
            have m3 := HM.out.1.blk (j3 Mb (by simp))
            obtain ⟨w9, hdel, m9, s9⟩ := m3.del HY.out.2 0
            have hg := HM.out.2
            have HQ2 : Hid (∃ (S' : TS) (c : Nat) (D : DataW Unit), Tu W w9 a S' [Mb] ∧ MpB w9 Mb k c (fun j => decide (j ∈ S'.P ++ S'.D)) D ∧ c = S'.P.length + S'.D.length ∧ S'.P.length + S'.D.length + (q + 1) ≤ k) := by
              have hcd := dr_card hg HY.out.1
              have hc := H1.out.2.2.1
              have hl := H1.out.2.2.2
              simp only [decide_eq_true (in_iff.1 HY.out.1), if_true] at m9
              refine ⟨drS S y, c - 1, D.del (.int .i64 y), u3.sp s9 (fun t ht => by simp at ht; rw [ht]; exact ⟨by simp, HMw.out⟩), ?_, by omega, by omega⟩
              have ef : (fun j => decide (j ∈ (drS S y).P ++ (drS S y).D)) = (fun j => if j = y then false else decide (j ∈ S.P ++ S.D)) := by
                funext j
                have := dr_mem hg HY.out.1 j
                by_cases e : j = y
                · rw [if_pos e]; exact decide_eq_false (fun h => (this.1 h).2 e)
                · rw [if_neg e]
                  exact decide_eq_decide.2 ⟨fun h => (this.1 h).1, fun h => this.2 ⟨h, e⟩⟩
              rw [ef]
              exact m9
            clear hDr u3 j3 m3 m9 s9 hg HM HY H1
            go_wp2
            go_roundw
            case rel => exact ⟨q + 1, by omega, by go_num, HQ2⟩
            case measure => simp [intOf]; omega
        · obtain rfl : q = k := by omega
          have HF : Hid (Tu W wx a S [Mb] ∧ MpB wx Mb q c (fun j => decide (j ∈ S.P ++ S.D)) D ∧ c = S.P.length + S.D.length ∧ vcO S = none) := ⟨u1, m1, hc, vc_zero (by omega)⟩
          clear HQ u1 m1 hc hlen
          have hV := HF.out.1.victim
          rw [HF.out.2.2.2] at hV
          have H3 := hid (And.intro HF.out.1 (And.intro HF.out.2.1 HF.out.2.2.1))
          clear HF
          go_wp2_with fail
          refine hV.mono ?_; rintro e v2 ⟨rfl, k2⟩
          obtain ⟨u2, j2⟩ := H3.out.1.kp k2
          have m2 := H3.out.2.1.blk (j2 Mb (by simp))
          have hL := u2.len
          have H4 := hid (And.intro u2 (And.intro m2 H3.out.2.2))
          clear hV k2 u2 j2 m2 H3
          go_wp2_with fail
          refine hL.mono ?_; rintro e v3 ⟨rfl, k3⟩
          obtain ⟨u3, j3⟩ := H4.out.1.kp k3
          have m3 := H4.out.2.1.blk (j3 Mb (by simp))
          have hln := m3.len
          obtain ⟨zz, hzz⟩ : ∃ zz : Int, zz = (c : Int) := ⟨_, rfl⟩
          have hz2 : (S.P.length : Int) + (S.D.length : Int) = zz := by have := H4.out.2.2; omega
          rw [hz2]
          rw [← hzz] at hln
          have HE := hid (HK.out.trans u3.k)
          clear hL k3 u3 j3 m3 H4 hz2 hzz
          go_wp2
          go_ret
          exact ⟨by simp, HE.out⟩

set_option maxRecDepth 100000 in
theorem lifted (os : Os) (started : os.Started) (H : Type) (enc : TypeId × Value → H) :
    ReturnsInHanded {} Try.checked os 4 .any (Rows.turnOnceSpec.pre6 enc Try.prog Try.f4 Rows.turnOnceRow.domain false) (Rows.turnOnceSpec.post enc Try.prog Try.f4 false true false false) := by
  refine returnsInHanded_of_change (C := Try.checked) own started (by kernel_rfl) Try.func4
    (ChangeSpec.witness6 (enc := enc) (C := Try.checked) false ⟨#[], #[.agg #[.int .i64 0, .int .i64 0], .slice none 0 0], []⟩ 8 (by kernel_rfl) (by kernel_rfl) (by kernel_rfl) (by kernel_rfl)) ?_
  intro W base args ds gs before hval0 hW hcnd _
  have hval : ∀ (j : Nat) t v, Try.f4.params[j]? = some t → args[j]? = some v → Value.okWide Try.prog W .any base t v := hval0
  have hW' := hW
  have hlt := hW.lt
  obtain ⟨p, q, hA0, hV, rfl, hfz, hnd⟩ := hW
  have hA : DataW.TrodAll enc Try.prog W 0 (fun _ => true) true Try.f4.params.toList args.toList ds p := hA0
  have hAk := hA
  rw [Try.params4] at hA hval
  obtain ⟨v0, vs0, d0, ds0, p0, q0, hargs, rfl, rfl, h0, r0⟩ := trodAll_cons hA
  obtain ⟨v1, vs1, d1, ds1, p1, q1, rfl, rfl, rfl, h1, r1⟩ := trodAll_cons r0
  obtain ⟨rfl, rfl, rfl⟩ := trodAll_nil r1
  obtain rfl : args = #[v0, v1] := by cases args; simp_all
  obtain ⟨rfl, rfl⟩ := trodVars_none hV
  obtain ⟨a0, b0, rfl, w0, x0⟩ := open_ints2 Try.underlying45 Try.underlying3 cellsI cellsJ (hval 0 45 v0 rfl rfl) h0
  obtain ⟨l1, w1⟩ := open_as23 (hval 1 22 v1 rfl rfl) h1
  clear hA0 hval0
  simp only [List.append_nil] at hW' hAk hlt
  refine (walk W a0 b0 v1 l1 w0 x0 w1).mono fun e W' ⟨he, hg⟩ => ?_
  subst he
  exact ⟨_, rfl, post_kp (pv := []) hW' (fun _ _ _ => (trodAll_cons_mk (shut_bool Try.underlying4 _) trodAll_mk0)) (fun sp hsp => trodAll_stays laidOut (by rw [Try.params4]; exact of_decide_eq_true (by kernel_rfl)) hAk (fun x hx => Below.same hg (hlt x hx)) hsp) (fun _ _ => rfl) (by simp) hg⟩

theorem over : Rows.turnOnceRow.holds Try.pinned (OpenSpec.ofChange Rows.turnOnceSpec) :=
  OpenClaim.holds_of_wide 4 Try.f4 rfl rfl rfl rfl rfl rfl rfl ⟨rfl, rfl, rfl, rfl, rfl⟩ rfl rfl rfl rfl rfl (by kernel_rfl) Try.func4 (by kernel_rfl)
    (of_decide_eq_true (by kernel_rfl)) (by unfold Func.isWrapper; first | (rw [if_pos (by decide +kernel)]; kernel_rfl) | (rw [if_neg (by decide +kernel)]; exact ⟨rfl, rfl⟩))
    (fun os started H enc _ => lifted os started H enc)

end Go.Proofs.Yteiangakgfekgaa.turnOnce
namespace Go.Proofs.Yteiangakgfekgaa
theorem turnOnce_holds : Rows.TurnOnceSaid := turnOnce.over
end Go.Proofs.Yteiangakgfekgaa
