/-
  TurnUsed: for every input the law answers true, and its arguments read as before. No condition.
-/
import Derived.Test.YteiangakgfekgaaRows
import Derived.Test.YteiangakgfekgaaBufArgs
import Derived.Test.YteiangakgfekgaaTuRun
import Derived.WalkKit
import Derived.ProofKit
import Derived.OpenShut
import Derived.ShutString
import Derived.Deep.QuietTactic
import Derived.BigQuiet
import Derived.Deep.RegionWith
import Derived.Deep.RegionHeld3
import Derived.Deep.DeepCutAuto
import Derived.Deep.CutBlock
namespace Go.Proofs.Yteiangakgfekgaa.turnUsed
open Go.ChangeShapes Go.WideShapes Go.ChangeAt Go.RowKit
open Go.ChangeMaps (open_string shut_string)
open Go.Proofs.Yteiangakgfekgaa Plain
set_option linter.unusedVariables false

theorem own : ownKnob Try.prog.godebug = none := by kernel_rfl
theorem laidOut : laidOutB Try.prog = true := by kernel_rfl
theorem cellsI : Try.prog.cellsOf 3 = 1 := by kernel_rfl
theorem cellsJ : Try.prog.cellsOf 45 = 2 := by kernel_rfl
/-- where a number stands first. -/
def ix (l : List Int) (k : Int) : Nat := l.idxOf k
theorem ix_at {l A B : List Int} {k : Int} (e : l = A ++ k :: B) (h : k ∉ A) : ix l k = A.length := by
  unfold ix
  rw [e, List.idxOf_append, if_neg h, List.idxOf_cons_self]
  omega
theorem ix_low {l A B : List Int} {k : Int} (e : l = A ++ B) (h : k ∈ A) : ix l k < A.length := by
  unfold ix
  rw [e, List.idxOf_append, if_pos h]
  exact List.idxOf_lt_length_of_mem h
theorem ix_high {l A B : List Int} {k : Int} (e : l = A ++ B) (h : k ∉ A) : A.length ≤ ix l k := by
  unfold ix
  rw [e, List.idxOf_append, if_neg h]
  omega
theorem ix_le (l : List Int) (k : Int) : ix l k ≤ l.length := List.idxOf_le_length
theorem us_fact {S : TS} (hg : Gd S) {a b : Int} (ha : a ∈ S.P) (hb : b ∈ S.P) (hne : a ≠ b) : ix ((toS S a).P ++ (toS S a).D) b < ix ((toS S a).P ++ (toS S a).D) a ∧ decide (a ∈ (toS S a).D) = decide (0 < S.Z) := by
  have hin : inT S a = true := in_iff.2 (by simp [ha])
  have haD := hg.off ha
  have hb1 : b ∈ S.P.erase a := (List.mem_erase_of_ne (Ne.symm hne)).2 hb
  have ha1 : a ∉ S.P.erase a := fun h => by
    have := hg.ndP
    exact (List.Nodup.not_mem_erase this) h
  have hz0 := hg.z0
  have hdl := hg.dl
  obtain ⟨Q, hQ, hD⟩ : ∃ Q, (toS S a).P ++ (toS S a).D = S.P.erase a ++ Q ∧ (a ∈ (toS S a).D ↔ 0 < S.Z) := by
    unfold toS
    rw [if_pos hin]
    have e1 : (dcS (tkS S a) a).D = S.D ++ [a] := by show S.D.erase a ++ [a] = _; rw [erase_out haD]
    have e2 : (dcS (tkS S a) a).P = S.P.erase a := rfl
    have e3 : (dcS (tkS S a) a).Z = S.Z := rfl
    unfold bkS
    cases hd : S.D with
    | nil =>
      rw [hd] at e1
      split
      · rename_i e; rw [e1] at e; simp at e
      · rename_i f r e
        rw [e1] at e
        simp at e
        obtain ⟨rfl, rfl⟩ := e
        split
        · rename_i hz
          rw [e1, e3] at hz
          simp at hz
          refine ⟨[a], by rw [e2]; simp, ?_⟩
          show a ∈ [] ↔ _
          simp
          omega
        · rename_i hz
          rw [e1, e3] at hz
          simp at hz
          refine ⟨[a], by rw [e2, e1]; simp, ?_⟩
          rw [e1]
          simp
          omega
    | cons d0 D0 =>
      rw [hd] at e1 hdl
      simp at hdl
      split
      · rename_i e; rw [e1] at e; simp at e
      · rename_i f r e
        rw [e1] at e
        simp at e
        obtain ⟨rfl, rfl⟩ := e
        split
        · refine ⟨d0 :: (D0 ++ [a]), by rw [e2]; simp, ?_⟩
          show a ∈ D0 ++ [a] ↔ _
          simp
          omega
        · refine ⟨d0 :: (D0 ++ [a]), by rw [e2, e1]; simp, ?_⟩
          rw [e1]
          simp
          omega
  refine ⟨?_, decide_eq_decide.2 hD⟩
  have h1 := ix_low hQ hb1
  have h2 := ix_high hQ ha1
  omega
set_option maxRecDepth 100000 in
set_option maxHeartbeats 8000000 in
theorem walk (w : World) (a0 b0 : Int) (a1 : Value) (l1 : List A3) (a2 b2 : Int) (w0 : (Lit.int .i64 a0).wf = true) (x0 : (Lit.int .i64 b0).wf = true) (w1 : Acts w a1 l1) (w2 : (Lit.int .i64 a2).wf = true) (x2 : (Lit.int .i64 b2).wf = true) :
    Calls Try.prog 6 #[.agg #[.int .i64 a0, .int .i64 b0], a1, .agg #[.int .i64 a2, .int .i64 b2]] w fun e w' => e = .returned (.bool true) ∧ Kp w w' := by
  clear w0 x0 w2 x2
  have hmm : ∀ (t : TypeId) (W : World), (Instr.makeMap t none).run Try.prog W = .ok (.map (some W.heap.size)) (W.alloc (.map #[] 0)) := fun _ _ => rfl
  obtain ⟨A, hA⟩ : ∃ z : Int, z = a2 % 32 := ⟨_, rfl⟩
  obtain ⟨B, hB⟩ : ∃ z : Int, z = b2 % 32 := ⟨_, rfl⟩
  have hmA : bits .and .i64 a2 31 = A := by rw [hA]; exact mask31 a2
  have hmB : bits .and .i64 b2 31 = B := by rw [hB]; exact mask31 b2
  clear hA hB
  obtain ⟨W1, hW1⟩ : ∃ W, W = w.alloc (.cells #[.int .i64 a0, .int .i64 b0] 45) := ⟨_, rfl⟩
  obtain ⟨H1, hH1⟩ : ∃ H, H = w.heap.size := ⟨_, rfl⟩
  have hB1 : W1.heap[H1]? = some (.cells #[.int .i64 a0, .int .i64 b0] 45 (0, 0)) := by rw [hW1, hH1]; exact new_obj _ _ _
  have k1 : Kp w W1 := by rw [hW1]; exact (Kp.refl w).alloc _
  obtain ⟨W, hW⟩ : ∃ W, W = W1.alloc (.cells #[.int .i64 a2, .int .i64 b2] 45) := ⟨_, rfl⟩
  obtain ⟨H2, hH2⟩ : ∃ H, H = W1.heap.size := ⟨_, rfl⟩
  have hB2 : W.heap[H2]? = some (.cells #[.int .i64 a2, .int .i64 b2] 45 (0, 0)) := by rw [hW, hH2]; exact new_obj _ _ _
  have k2 : Kp W1 W := by rw [hW]; exact (Kp.refl W1).alloc _
  have e0 : W.cell? ⟨H1, 0, none⟩ = some (.int .i64 a0) := k2.held (cell_of hB1 0)
  have e1 : W.cell? ⟨H1, 1, none⟩ = some (.int .i64 b0) := k2.held (cell_of hB1 1)
  have e2 : W.cell? ⟨H2, 0, none⟩ = some (.int .i64 a2) := cell_of hB2 0
  have e3 : W.cell? ⟨H2, 1, none⟩ = some (.int .i64 b2) := cell_of hB2 1
  have HW : Hid (W1 = w.alloc (.cells #[.int .i64 a0, .int .i64 b0] 45) ∧ H1 = w.heap.size ∧ W = W1.alloc (.cells #[.int .i64 a2, .int .i64 b2] 45) ∧ H2 = w.heap.size + 1) := ⟨hW1, hH1, hW, by rw [hH2, hW1]; simp⟩
  have HK := hid (k1.trans k2)
  have hRn := run_any a0 b0 a1 l1 W (w1.kept (k1.trans k2))
  obtain ⟨pa, pg, po, pc, ln, rfl, _⟩ := w1.open
  clear hW1 hH1 hB1 k1 hW hH2 hB2 k2 w1
  go_enter Try.func6, Try.ntmps6
  go_upto_region 1 with fail
  rw [← HW.out.1, ← HW.out.2.2.1, ← HW.out.2.2.2, ← HW.out.2.1]
  clear HW
  go_wp2_with fail
  refine hRn.mono ?_; rintro e w2 ⟨t, S, rfl, u2, r2⟩
  have e2 := u2.k.held e2
  have e3 := u2.k.held e3
  have HU := hid (And.intro u2 r2)
  clear hRn e0 e1 u2 r2
  go_upto_region 2 with fail
  go_quiet (fail)
  rename_i nq
  obtain ⟨w3, hw3⟩ : ∃ z, z = w2.drewN nq := ⟨_, rfl⟩
  have k3 : Kp w2 w3 := by rw [hw3]; exact (Kp.refl w2).drewN nq
  rw [← hw3]
  have u3 := (HU.out.1.kp k3).1
  have hHa := u3.has A
  have HU3 := hid (And.intro u3 HU.out.2)
  clear hw3 k3 u3 HU e2 e3 hmA hmB
  go_wp2_with fail
  refine hHa.mono ?_; rintro e w4 ⟨rfl, rfl⟩
  have hHb := HU3.out.1.has B
  have HK4 := hid (HK.out.trans HU3.out.1.k)
  go_wp2_with fail
  refine hHb.mono ?_; rintro e w5 ⟨rfl, rfl⟩
  by_cases hAB : A = B
  · have hd : (A == B) = true := by simp [hAB]
    clear hAB HU3
    clear hHa hHb
    go_wp2_with fail
    refine (wakes_any _).mono ?_; rintro e y5 ⟨rfl, k5⟩
    go_wp2_with fail
    refine (wakes_any _).mono ?_; rintro e y6 ⟨rfl, k6⟩
    have HE := hid (HK4.out.trans (k5.trans k6))
    clear k5 k6
    go_wp2
    go_ret
    exact ⟨by simp, HE.out⟩
  · have hd : (A == B) = false := by simp [hAB]
    cases hia : inT S A with
    | false =>
      clear hAB HU3
      clear hHa hHb
      go_wp2_with fail
      refine (wakes_any _).mono ?_; rintro e y5 ⟨rfl, k5⟩
      go_wp2_with fail
      refine (wakes_any _).mono ?_; rintro e y6 ⟨rfl, k6⟩
      have HE := hid (HK4.out.trans (k5.trans k6))
      clear k5 k6
      go_wp2
      go_ret
      exact ⟨by simp, HE.out⟩
    | true =>
      cases hib : inT S B with
      | false =>
        clear hAB HU3
        clear hHa hHb
        go_wp2_with fail
        refine (wakes_any _).mono ?_; rintro e y5 ⟨rfl, k5⟩
        go_wp2_with fail
        refine (wakes_any _).mono ?_; rintro e y6 ⟨rfl, k6⟩
        have HE := hid (HK4.out.trans (k5.trans k6))
        clear k5 k6
        go_wp2
        go_ret
        exact ⟨by simp, HE.out⟩
      | true =>
        by_cases hda : A ∈ S.D
        · rw [decide_eq_true hda]
          clear hAB HU3 hda
          clear hHa hHb
          go_wp2_with fail
          refine (wakes_any _).mono ?_; rintro e y5 ⟨rfl, k5⟩
          go_wp2_with fail
          refine (wakes_any _).mono ?_; rintro e y6 ⟨rfl, k6⟩
          have HE := hid (HK4.out.trans (k5.trans k6))
          clear k5 k6
          go_wp2
          go_ret
          exact ⟨by simp, HE.out⟩
        · rw [decide_eq_false hda]
          by_cases hdb : B ∈ S.D
          · rw [decide_eq_true hdb]
            clear hAB HU3 hda hdb
            clear hHa hHb
            go_wp2_with fail
            refine (wakes_any _).mono ?_; rintro e y5 ⟨rfl, k5⟩
            go_wp2_with fail
            refine (wakes_any _).mono ?_; rintro e y6 ⟨rfl, k6⟩
            have HE := hid (HK4.out.trans (k5.trans k6))
            clear k5 k6
            go_wp2
            go_ret
            exact ⟨by simp, HE.out⟩
          · rw [decide_eq_false hdb]
            have hpa : A ∈ S.P := by
              rcases List.mem_append.1 (in_iff.1 hia) with h | h
              · exact h
              · exact absurd h hda
            have hpb : B ∈ S.P := by
              rcases List.mem_append.1 (in_iff.1 hib) with h | h
              · exact h
              · exact absurd h hdb
            have HF := hid (And.intro hpa (And.intro hpb (And.intro hAB (And.intro hia hib))))
            clear hHa hHb hda hdb hpa hpb hAB
            go_wp2_with fail
            refine (wakes_any _).mono ?_; rintro e y5 ⟨rfl, k5⟩
            have u5 := (HU3.out.1.kp k5).1
            have hg := u5.g
            have hT := u5.touch A
            rw [HF.out.2.2.2.1] at hT
            have HS := hid (And.intro HU3.out.2 hg)
            clear k5 u5 HU3 hg
            go_wp2_with fail
            refine hT.mono ?_; rintro e w6 ⟨rfl, u6, _⟩
            have hin : inT (toS S A) B = true := in_iff.2 ((to_perm HS.out.2 A).mem_iff.2 (in_iff.1 HF.out.2.2.2.2))
            have hP := u6.pin (by have := (to_K S A).2.2.2; have := HS.out.1.n; omega) B true
            rw [hin] at hP
            have HI := hid hin
            clear hT u6 hin
            go_wp2_with fail
            refine hP.mono ?_; rintro e w7 ⟨rfl, u7, _⟩
            obtain ⟨R, hR⟩ : ∃ R, R = pnS (toS S A) B true := ⟨_, rfl⟩
            rw [← hR] at u7
            have hRP : R.P = (toS S A).P ∧ R.D = (toS S A).D ∧ R.K B = true := by
              rw [hR]
              unfold pnS
              rw [if_pos HI.out]
              exact ⟨rfl, rfl, by show setK _ B true B = true; unfold setK; rw [if_pos rfl]⟩
            obtain ⟨l, hl⟩ : ∃ l, l = R.P ++ R.D := ⟨_, rfl⟩
            have hus := us_fact HS.out.2 HF.out.1 HF.out.2.1 HF.out.2.2.1
            rw [← hRP.1, ← hRP.2.1, ← hl] at hus
            have hAl : A ∈ l := by rw [hl, hRP.1, hRP.2.1]; exact (to_perm HS.out.2 A).mem_iff.2 (in_iff.1 HF.out.2.2.2.1)
            have hBl : B ∈ l := by rw [hl, hRP.1, hRP.2.1]; exact (to_perm HS.out.2 A).mem_iff.2 (in_iff.1 HF.out.2.2.2.2)
            have HG := hid (And.intro hus (And.intro hAl (And.intro hBl (And.intro hRP.2.2 hl))))
            have HS2 := hid (HS.out.1.Z)
            clear hP HI HS HF hR hRP hus hAl hBl hl hia hib
            obtain ⟨U, hU⟩ : ∃ U, U = w7.alloc (.map #[] 0) := ⟨_, rfl⟩
            obtain ⟨Mb, hM⟩ : ∃ M, M = w7.heap.size := ⟨_, rfl⟩
            have kU : Kp w7 U := by rw [hU]; exact (Kp.refl w7).alloc _
            have hM0 : MpI U Mb 0 0 (fun _ => none) (.map []) := by rw [hU, hM]; exact MpI.made w7
            have hMw : W.heap.size ≤ Mb := by rw [hM]; exact u7.k.size
            have HU6 := hid (And.intro (u7.more kU (by omega) hM0.lt) hM0)
            have HV : Hid (U = w7.alloc (.map #[] 0) ∧ Mb = w7.heap.size) := ⟨hU, hM⟩
            have HMw := hid hMw
            clear hU hM kU hM0 hMw u7
            go_upto_region 10 with fail
            rw [← HV.out.1, ← HV.out.2]
            clear HV
            have hO := HU6.out.1.order
            go_wp2_with fail
            refine hO.mono ?_; rintro e w8 ⟨v, rfl, ho, k6⟩
            obtain ⟨u6, j6⟩ := HU6.out.1.kp k6
            have m6 := HU6.out.2.blk (j6 Mb (by simp))
            rw [← HG.out.2.2.2.2] at ho
            have hMv : v.ownBlock ≠ some Mb := fun e => by have := (ho.lt Mb e).1; have := HU6.out.2.lt; omega
            obtain ⟨pv2, cv2, hvs⟩ := ho.shape
            obtain ⟨n, hn⟩ : ∃ n, n = l.length := ⟨_, rfl⟩
            rw [← hn] at hvs
            have hn64 : n ≤ 64 := by
              have h1 := HU6.out.1.g.len
              have h2 := HU6.out.1.g.m2
              rw [hn, HG.out.2.2.2.2, List.length_append]
              omega
            have H0 : Hid (Tu W w8 t R [Mb] ∧ MpI w8 Mb 0 0 (fun j => if j ∈ l.take 0 then some (ix l j : Int) else none) (.map []) ∧ OwnI w8 U.heap.size v l) := ⟨u6, by simpa using m6, ho⟩
            have HN := hid (And.intro hMv (And.intro hvs hn))
            rw [hvs]
            clear hO ho k6 u6 j6 m6 hMv HU6 hvs hn
            go_wp2_with fail
            go_loopw [17, 18, 91] (fun _ _ i wr => ∃ (k : Nat) (D : DataW Unit), k ≤ n ∧ i = .int .i64 k ∧ Hid (Tu W wr t R [Mb] ∧ MpI wr Mb k k (fun j => if j ∈ l.take k then some (ix l j : Int) else none) D ∧ OwnI wr U.heap.size v l)) (fun _ _ i _ => n - (intOf i).toNat)
            case atStart => exact ⟨0, _, by omega, rfl, H0⟩
            case round =>
              clear H0
              obtain ⟨k, D, hk, rfl, HQ⟩ := hrel
              rename World => wr
              by_cases hlt : k < n
              · have hil : k < l.length := by have := HN.out.2.2; omega
                have hI := HQ.out.2.2.ints
                obtain ⟨q1, g, q2, q3, q4, q5, q6, q7, q8⟩ := hI
                rw [HN.out.2.1] at q3
                have e2 := q6 (by omega)
                have hq : pv2 = some ⟨g, 0, none⟩ := by
                  have e3 : pv2 = q1 := by simp at q3; exact q3.1
                  rw [e3, e2]
                subst hq
                have d0 := q8 k hil
                obtain ⟨y, hy⟩ : ∃ y, y = l.getD k 0 := ⟨_, rfl⟩
                rw [← hy] at d0
                have hk3 : (k : Int) < (n : Int) := by omega
                have hym : y ∈ l := by rw [at_split hil, ← hy]; simp
                have hyS : y ∈ R.P ++ R.D := by rw [← HG.out.2.2.2.2]; exact hym
                have hyo : iOk y := HQ.out.1.g.ok y hyS
                have hnd : l.Nodup := by rw [HG.out.2.2.2.2]; exact HQ.out.1.g.nd
                have hyt : y ∉ l.take k := by
                  have h1 := hnd
                  rw [at_split hil, ← hy, List.nodup_append] at h1
                  intro h2
                  exact h1.2.2 y h2 y (by simp) rfl
                have hix : ix l y = k := by
                  have := ix_at (l := l) (A := l.take k) (B := l.drop (k + 1)) (k := y) (by rw [hy]; exact at_split hil) hyt
                  rw [this, List.length_take]; omega
                obtain ⟨w7, D', hup, m7, s7⟩ := HQ.out.2.1.put hyo (by omega) (s := (k : Int)) (by unfold iOk; omega)
                simp only [if_neg hyt, Option.isSome_none, Bool.false_eq_true, if_false] at m7
                have HQ2 : Hid (Tu W w7 t R [Mb] ∧ MpI w7 Mb (k + 1) (k + 1) (fun j => if j ∈ l.take (k + 1) then some (ix l j : Int) else none) D' ∧ OwnI w7 U.heap.size v l) := by
                  refine ⟨HQ.out.1.sp s7 (fun t ht => by simp at ht; rw [ht]; exact ⟨by simp, HMw.out⟩), ?_, HQ.out.2.2.sp s7 (fun g hg e => HN.out.1 (by simp at e; rw [← e]; exact hg))⟩
                  have ef : (fun j => if j ∈ l.take (k + 1) then some (ix l j : Int) else none) = (fun j => if j = y then some (k : Int) else if j ∈ l.take k then some (ix l j : Int) else none) := by
                    funext j
                    rw [take_next hil, ← hy]
                    by_cases e : j = y
                    · rw [if_pos e, e, if_pos (by simp), hix]
                    · by_cases e2 : j ∈ l.take k
                      · rw [if_neg e, if_pos e2, if_pos (by simp [e2])]
                      · rw [if_neg e, if_neg e2, if_neg (by simp [e, e2])]
                  rw [ef]
                  exact m7
                clear q3 q4 q5 q6 q7 q8 e2 hy hym hyS hyo hnd hyt hix m7 s7 HQ hil
                go_wp2
                go_roundw
                case rel => exact ⟨k + 1, D', by omega, by go_num, HQ2⟩
                case measure => simp [intOf]; omega
              · obtain rfl : k = n := by omega
                have hlt : l.take k = l := List.take_of_length_le (by have := HN.out.2.2; omega)
                have hM := HQ.out.2.1
                rw [hlt] at hM
                have hV := HQ.out.1.victim
                have HM := hid (And.intro HQ.out.1 hM)
                clear hlt HQ hM
                go_wp2_with fail
                refine hV.mono ?_; rintro e v1 ⟨rfl, k1⟩
                obtain ⟨u1, j1⟩ := HM.out.1.kp k1
                have m1 := HM.out.2.blk (j1 Mb (by simp))
                have hHa := u1.has A
                have hdA : decide (A ∈ R.D) = decide (0 < S.Z) := HG.out.1.2
                rw [hdA] at hHa
                have hAo : iOk A := u1.g.ok A (by rw [← HG.out.2.2.2.2]; exact HG.out.2.1)
                have hBo : iOk B := u1.g.ok B (by rw [← HG.out.2.2.2.2]; exact HG.out.2.2.1)
                have hkA := m1.look hAo (s := (ix l A : Int)) (if_pos HG.out.2.1)
                have hkB := m1.look hBo (s := (ix l B : Int)) (if_pos HG.out.2.2.1)
                have hxx : ix l B < ix l A := HG.out.1.1
                obtain ⟨xa, hxa⟩ : ∃ z, z = ix l A := ⟨_, rfl⟩
                obtain ⟨xb, hxb⟩ : ∃ z, z = ix l B := ⟨_, rfl⟩
                rw [← hxa] at hkA hxx
                rw [← hxb] at hkB hxx
                have hx2 : decide ((xb : Int) < (xa : Int)) = true := by simp; omega
                have HKE := hid (HK.out.trans u1.k)
                obtain ⟨z, hz⟩ : ∃ z, z = S.Z := ⟨_, rfl⟩
                rw [← hz] at hHa ⊢
                have hvb : vcO R = none ∨ ∃ x, vcO R = some x ∧ x ≠ B := by
                  cases hv : vcO R with
                  | none => exact .inl rfl
                  | some x => exact .inr ⟨x, rfl, fun e => by have := (vc_in hv).2; rw [e, HG.out.2.2.2.1] at this; cases this⟩
                clear hV k1 u1 j1 m1 hdA hAo hBo hxa hxb hz HM
                rcases hvb with hv | ⟨x, hv, hxB⟩
                · have hvk : vcK R = 0 := by unfold vcK; rw [hv]; rfl
                  rw [hvk, hv]
                  clear hvk hv
                  go_wp2_with fail
                  refine hHa.mono ?_; rintro e v2 ⟨rfl, rfl⟩
                  clear hHa
                  go_wp2
                  go_ret
                  exact ⟨by simp, HKE.out⟩
                · have hvk : vcK R = x := by unfold vcK; rw [hv]; rfl
                  have hne : (x != B) = true := by simp [hxB]
                  rw [hvk, hv]
                  clear hvk hv hxB
                  go_wp2_with fail
                  refine hHa.mono ?_; rintro e v2 ⟨rfl, rfl⟩
                  clear hHa
                  go_wp2
                  go_ret
                  exact ⟨by simp, HKE.out⟩

set_option maxRecDepth 100000 in
theorem lifted (os : Os) (started : os.Started) (H : Type) (enc : TypeId × Value → H) :
    ReturnsInHanded {} Try.checked os 6 .any (Rows.turnUsedSpec.pre6 enc Try.prog Try.f6 Rows.turnUsedRow.domain false) (Rows.turnUsedSpec.post enc Try.prog Try.f6 false true false false) := by
  refine returnsInHanded_of_change (C := Try.checked) own started (by kernel_rfl) Try.func6
    (ChangeSpec.witness6 (enc := enc) (C := Try.checked) false ⟨#[], #[.agg #[.int .i64 0, .int .i64 0], .slice none 0 0, .agg #[.int .i64 0, .int .i64 0]], []⟩ 8 (by kernel_rfl) (by kernel_rfl) (by kernel_rfl) (by kernel_rfl)) ?_
  intro W base args ds gs before hval0 hW hcnd _
  have hval : ∀ (j : Nat) t v, Try.f6.params[j]? = some t → args[j]? = some v → Value.okWide Try.prog W .any base t v := hval0
  have hW' := hW
  have hlt := hW.lt
  obtain ⟨p, q, hA0, hV, rfl, hfz, hnd⟩ := hW
  have hA : DataW.TrodAll enc Try.prog W 0 (fun _ => true) true Try.f6.params.toList args.toList ds p := hA0
  have hAk := hA
  rw [Try.params6] at hA hval
  obtain ⟨v0, vs0, d0, ds0, p0, q0, hargs, rfl, rfl, h0, r0⟩ := trodAll_cons hA
  obtain ⟨v1, vs1, d1, ds1, p1, q1, rfl, rfl, rfl, h1, r1⟩ := trodAll_cons r0
  obtain ⟨v2, vs2, d2, ds2, p2, q2, rfl, rfl, rfl, h2, r2⟩ := trodAll_cons r1
  obtain ⟨rfl, rfl, rfl⟩ := trodAll_nil r2
  obtain rfl : args = #[v0, v1, v2] := by cases args; simp_all
  obtain ⟨rfl, rfl⟩ := trodVars_none hV
  obtain ⟨a0, b0, rfl, w0, x0⟩ := open_ints2 Try.underlying45 Try.underlying3 cellsI cellsJ (hval 0 45 v0 rfl rfl) h0
  obtain ⟨l1, w1⟩ := open_as23 (hval 1 22 v1 rfl rfl) h1
  obtain ⟨a2, b2, rfl, w2, x2⟩ := open_ints2 Try.underlying45 Try.underlying3 cellsI cellsJ (hval 2 45 v2 rfl rfl) h2
  clear hA0 hval0
  simp only [List.append_nil] at hW' hAk hlt
  refine (walk W a0 b0 v1 l1 a2 b2 w0 x0 w1 w2 x2).mono fun e W' ⟨he, hg⟩ => ?_
  subst he
  exact ⟨_, rfl, post_kp (pv := []) hW' (fun _ _ _ => (trodAll_cons_mk (shut_bool Try.underlying4 _) trodAll_mk0)) (fun sp hsp => trodAll_stays laidOut (by rw [Try.params6]; exact of_decide_eq_true (by kernel_rfl)) hAk (fun x hx => Below.same hg (hlt x hx)) hsp) (fun _ _ => rfl) (by simp) hg⟩

theorem over : Rows.turnUsedRow.holds Try.pinned (OpenSpec.ofChange Rows.turnUsedSpec) :=
  OpenClaim.holds_of_wide 6 Try.f6 rfl rfl rfl rfl rfl rfl rfl ⟨rfl, rfl, rfl, rfl, rfl⟩ rfl rfl rfl rfl rfl (by kernel_rfl) Try.func6 (by kernel_rfl)
    (of_decide_eq_true (by kernel_rfl)) (by unfold Func.isWrapper; first | (rw [if_pos (by decide +kernel)]; kernel_rfl) | (rw [if_neg (by decide +kernel)]; exact ⟨rfl, rfl⟩))
    (fun os started H enc _ => lifted os started H enc)

end Go.Proofs.Yteiangakgfekgaa.turnUsed
namespace Go.Proofs.Yteiangakgfekgaa
theorem turnUsed_holds : Rows.TurnUsedSaid := turnUsed.over
end Go.Proofs.Yteiangakgfekgaa
