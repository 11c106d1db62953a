/-
  TallyParts: for every input the law answers true, and its arguments read as before. The condition: the kinds' names read as they are laid.
-/
import Derived.Test.YtlhiienmhglieaaDoorRows
import Derived.Test.YtlhiienmhglieaaDoorCards
import Derived.Test.YtlhiienmhglieaaDoorTie
import Derived.Test.YtlhiienmhglieaaDoorTlArgs
import Derived.Test.YtlhiienmhglieaaDoorTlParts
import Derived.WalkKit
import Derived.ProofKit
import Derived.OpenShut
import Derived.ShutString
import Derived.LaidMore
import Derived.SevenTiedAt
import Derived.Stop.Joined
namespace Go.Proofs.YtlhiienmhglieaaDoor.tallyParts
open Go.ChangeShapes Go.WideShapes Go.ChangeAt Go.RowKit
open Go.ChangeMaps (open_string shut_string)
open Go.BigFrame
set_option linter.unusedVariables false

theorem own : ownKnob Tryd.prog.godebug = none := by kernel_rfl
theorem laidOut : laidOutB Tryd.prog = true := by kernel_rfl
theorem cellsL : Tryd.prog.cellsOf 2 = 1 := by kernel_rfl
theorem cellsM : Tryd.prog.cellsOf 40 = 2 := by kernel_rfl
theorem cellsI : Tryd.prog.cellsOf 3 = 1 := by kernel_rfl
theorem cellsJ : Tryd.prog.cellsOf 41 = 2 := by kernel_rfl

def pS (x y m n : Int) (j : Nat) : TS := if j = 0 then tz else if j = 1 then ad tz x m else ad (ad tz x m) y n
theorem pS_ok (x y m n : Int) (j : Nat) : Ok (pS x y m n j) 0 := by
  unfold pS
  split
  · exact ok_z
  · split
    · exact ok_z.ad _ _
    · exact (ok_z.ad _ _).ad _ _

set_option maxRecDepth 100000 in
set_option maxHeartbeats 8000000 in
theorem walk (w : World) (hN : Names w) (a0 b0 : Int) (a1 b1 : Int) (a2 : Int) (w0 : (Lit.int .i64 a0).wf = true) (x0 : (Lit.int .i64 b0).wf = true) (w1 : (Lit.int .i64 a1).wf = true) (x1 : (Lit.int .i64 b1).wf = true) (w2 : (Lit.int .i64 a2).wf = true) :
    Calls Tryd.prog 4 #[.agg #[.int .i64 a0, .int .i64 b0], .agg #[.int .i64 a1, .int .i64 b1], .int .i64 a2] w fun e w' => e = .returned (.bool true) ∧ Kp w w' := by
  have hn0 := wf_le w0
  have hn1 := wf_le x0
  have hk0 := wf_le w1
  have hk1 := wf_le x1
  clear w0 x0 w1 x1
  have hx0 := fun w' => imax (P := Tryd.prog) #[3, 3] 3 0 a1 w'
  have hx1 := fun w' => imax (P := Tryd.prog) #[3, 3] 3 0 b1 w'
  obtain ⟨m0, hm0⟩ : ∃ m0, m0 = max 0 a1 := ⟨_, rfl⟩
  obtain ⟨m1, hm1⟩ : ∃ m1, m1 = max 0 b1 := ⟨_, rfl⟩
  rw [← hm0] at hx0
  rw [← hm1] at hx1
  have hq0 : 0 ≤ m0 := by omega
  have hq1 : 0 ≤ m1 := by omega
  obtain ⟨U0, hU0⟩ : ∃ U0, U0 = (w.alloc (.cells #[.int .i64 a0, .int .i64 b0] 40)).alloc (.cells #[.int .i64 a1, .int .i64 b1] 41) := ⟨_, rfl⟩
  have K0 : Kp w U0 := by rw [hU0]; exact ((Kp.refl w).alloc _).alloc _
  obtain ⟨W, hW⟩ : ∃ W, W = U0.alloc (.cells #[.int .i64 a1, .int .i64 b1, .int .i64 (m0 % 9), .int .i64 (m1 % 9)] 41) := ⟨_, rfl⟩
  have KW : Kp U0 W := by rw [hW]; exact (Kp.refl U0).alloc _
  obtain ⟨B0, hB0⟩ : ∃ B0, B0 = w.heap.size := ⟨_, rfl⟩
  obtain ⟨Lb, hLb⟩ : ∃ Lb, Lb = w.heap.size + 1 + 1 := ⟨_, rfl⟩
  have hU0s : U0.heap.size = Lb := by rw [hU0, hLb]; simp
  have cN0 : W.cell? ⟨B0, 0, none⟩ = some (.int .i64 a0) := KW.held (by rw [hU0, hB0]; refine ((Kp.refl _).alloc _).held ?_; rw [World.cell?_alloc_at _ _ _ _ rfl]; rfl)
  have cN1 : W.cell? ⟨B0, 1, none⟩ = some (.int .i64 b0) := KW.held (by rw [hU0, hB0]; refine ((Kp.refl _).alloc _).held ?_; rw [World.cell?_alloc_at _ _ _ _ rfl]; rfl)
  have HL : Hid (∀ wr, Kp W wr → ∀ i, i < 2 → ∃ X Y : Int, wr.cell? ⟨Lb, i * 2, none⟩ = some (.int .i64 X) ∧ wr.cell? ⟨Lb, i * 2 + 1, none⟩ = some (.int .i64 Y)) := fun wr kr i hi => by
    rcases (show i = 0 ∨ i = 1 by omega) with rfl | rfl
    · exact ⟨a1, b1, kr.held (by rw [hW, World.cell?_alloc_at _ _ _ _ hU0s.symm]; rfl), kr.held (by rw [hW, World.cell?_alloc_at _ _ _ _ hU0s.symm]; rfl)⟩
    · exact ⟨m0 % 9, m1 % 9, kr.held (by rw [hW, World.cell?_alloc_at _ _ _ _ hU0s.symm]; rfl), kr.held (by rw [hW, World.cell?_alloc_at _ _ _ _ hU0s.symm]; rfl)⟩
  have HKw : Hid (Kp w W) := K0.trans KW
  have HN := hid hN
  have hzr := zero_ref
  have HU0 := hid hU0
  have HW := hid hW
  have HB0 := hid hB0
  have HLb := hid hLb
  clear hN hm0 hm1 hU0s hU0 hW hB0 hLb K0 KW
  go_enter Tryd.func4, Tryd.ntmps4
  go_wp2_with fail
  rw [← HLb.out, ← HU0.out, ← HW.out, ← HB0.out]
  clear HU0 HW HLb HB0 hx0 hx1
  go_loopw [24] (fun i wr => ∃ i0 : Nat, i0 ≤ 2 ∧ i = .int .i64 i0 ∧ Hid (Kp W wr)) (fun i _ => 2 - (intOf i).toNat)
  case atStart => exact ⟨0, by omega, by go_num, Kp.refl W⟩
  case round =>
    obtain ⟨i, hi, rfl, HKr⟩ := hrel
    by_cases hlt : i < 2
    · obtain ⟨X, Y, g0, g1⟩ := HL.out wr HKr.out i hlt
      obtain ⟨V1, hV1⟩ : ∃ V1, V1 = wr.alloc (.cells #[.int .i64 X, .int .i64 Y] 41) := ⟨_, rfl⟩
      obtain ⟨B, hB⟩ : ∃ B, B = wr.heap.size := ⟨_, rfl⟩
      have cX0 : V1.cell? ⟨B, 0, none⟩ = some (.int .i64 X) := by rw [hV1, World.cell?_alloc_at _ _ _ _ hB]; rfl
      have cX1 : V1.cell? ⟨B, 1, none⟩ = some (.int .i64 Y) := by rw [hV1, World.cell?_alloc_at _ _ _ _ hB]; rfl
      have kv : Kp wr V1 := by rw [hV1]; exact (Kp.refl wr).alloc _
      have HKx : Hid (Kp W V1) := HKr.out.trans kv
      have HV1 := hid hV1
      have HB := hid hB
      clear kv hV1 hB HKr
      go_wp2_with fail
      rw [← HB.out, ← HV1.out]
      refine (new_any V1).mono ?_; rintro e u1 ⟨rfl, h1, k1⟩
      obtain ⟨t, ht⟩ : ∃ t, t = V1.heap.size := ⟨_, rfl⟩
      obtain ⟨r, hr⟩ : ∃ r, r = u1.heap.size := ⟨_, rfl⟩
      rw [← ht] at h1 ⊢
      have k2 : Kp u1 (u1.alloc (.cells zF 29)) := (Kp.refl u1).alloc _
      have HR0 : Hid (TlIn (u1.alloc (.cells zF 29)) r (pS X Y a0 b0 0)) := by show TlIn _ r tz; rw [hr]; exact new_tl u1 _
      have HT0 : Hid (TlIn (u1.alloc (.cells zF 29)) t (pS X Y a0 b0 0)) := h1.kp k2
      have HK0 := hid (k1.trans k2)
      have htr : t ≠ r := by have := h1.hb; omega
      have Hdt : Hid (V1.heap.size ≤ t) := by rw [ht]; exact Nat.le_refl _
      have Hdr : Hid (V1.heap.size ≤ r) := by rw [hr]; exact k1.size
      clear h1 k1 k2 ht HV1 HB g0 g1
      go_wp2_with fail
      rw [← hr]
      clear hr
      go_loopw [31] (fun jv wr => ∃ j : Nat, j ≤ 2 ∧ jv = .int .i64 j ∧ Hid (TlIn wr t (pS X Y a0 b0 j)) ∧ Hid (TlIn wr r (pS X Y a0 b0 j)) ∧ Hid (Kp V1 wr)) (fun i _ => 2 - (intOf i).toNat)
      case atStart => exact ⟨0, by omega, by go_num, HT0, HR0, HK0⟩
      case round =>
        clear HT0 HR0 HK0
        obtain ⟨j, hj, rfl, HT, HR, HKV⟩ := hrel
        rcases (show j = 0 ∨ j = 1 ∨ j = 2 by omega) with rfl | rfl | rfl
        · skip
          have d0 := (HKx.out.trans HKV.out).held cN0
          have d1 := HKV.out.held cX0
          have y0 := kpw_cell d0
          have y1 := kpw_cell d1
          go_wp2_with fail
          refine wp_region_tailc2 rfl (by kernel_rfl) (by kernel_rfl) (by kernel_rfl) ?_
          simp only [List.dropLast]
          repeat (first
            | go_big_quiet_skip
            | (go_big_quiet_want; go_big_quiet_op; go_big_quiet_on))
          refine wpQuiet_nil ?_
          rintro w9 ⟨p, hp9⟩
          have kD : Kp wr w9 := by rw [hp9]; exact kpw_kp wr p
          have hA := add_any t _ 0 X a0 w9 (HT.out.kp kD) (pS_ok X Y a0 b0 0) hn0.2
          have HR9 := hid (HR.out.kp kD)
          have HK9 := hid (HKV.out.trans kD)
          clear hp9 y0 y1 d0 d1 kD HT HR HKV
          go_wp2_with fail
          refine hA.mono ?_; rintro e V2 ⟨rfl, hT2, s2⟩
          have hR2 := HR9.out.sp s2 (show r ∉ [t] by simp; omega)
          have K2 : Kp V1 V2 := Sp.kp HK9.out s2 (fun x hx => by rw [List.mem_singleton.1 hx]; exact Hdt.out)
          have d0 := (HKx.out.trans K2).held cN0
          have d1 := K2.held cX0
          have y0 := kpw_cell d0
          have y1 := kpw_cell d1
          have HT2 := hid hT2
          have HR2 := hid hR2
          have HK2 := hid K2
          clear hA s2 HR9 HK9 hT2 hR2 K2
          go_wp2_with fail
          refine wp_region_tailc2 rfl (by kernel_rfl) (by kernel_rfl) (by kernel_rfl) ?_
          simp only [List.dropLast]
          repeat (first
            | go_big_quiet_skip
            | (go_big_quiet_want; go_big_quiet_op; go_big_quiet_on))
          refine wpQuiet_nil ?_
          rintro w9 ⟨p, hp9⟩
          have kD : Kp V2 w9 := by rw [hp9]; exact kpw_kp V2 p
          have hA := radd_any r _ 0 X a0 w9 (HR2.out.kp kD) (pS_ok X Y a0 b0 0) hn0.2
          have HT9 := hid (HT2.out.kp kD)
          have HK9 := hid (HK2.out.trans kD)
          clear hp9 y0 y1 d0 d1 kD HT2 HR2 HK2
          go_wp2_with fail
          refine hA.mono ?_; rintro e V3 ⟨rfl, hR3, s3⟩
          have HT3 : Hid (TlIn V3 t (pS X Y a0 b0 1)) := HT9.out.sp s3 (show t ∉ [r] by simp; omega)
          have HR3 : Hid (TlIn V3 r (pS X Y a0 b0 1)) := hR3
          have HK3 : Hid (Kp V1 V3) := Sp.kp HK9.out s3 (fun x hx => by rw [List.mem_singleton.1 hx]; exact Hdr.out)
          clear hA s3 HT9 HK9 hR3
          go_wp2
          go_roundw
          case rel => exact ⟨1, by omega, by go_num, HT3, HR3, HK3⟩
          case measure => simp [intOf]
        · skip
          have d0 := (HKx.out.trans HKV.out).held cN1
          have d1 := HKV.out.held cX1
          have y0 := kpw_cell d0
          have y1 := kpw_cell d1
          go_wp2_with fail
          refine wp_region_tailc2 rfl (by kernel_rfl) (by kernel_rfl) (by kernel_rfl) ?_
          simp only [List.dropLast]
          repeat (first
            | go_big_quiet_skip
            | (go_big_quiet_want; go_big_quiet_op; go_big_quiet_on))
          refine wpQuiet_nil ?_
          rintro w9 ⟨p, hp9⟩
          have kD : Kp wr w9 := by rw [hp9]; exact kpw_kp wr p
          have hA := add_any t _ 0 Y b0 w9 (HT.out.kp kD) (pS_ok X Y a0 b0 1) hn1.2
          have HR9 := hid (HR.out.kp kD)
          have HK9 := hid (HKV.out.trans kD)
          clear hp9 y0 y1 d0 d1 kD HT HR HKV
          go_wp2_with fail
          refine hA.mono ?_; rintro e V2 ⟨rfl, hT2, s2⟩
          have hR2 := HR9.out.sp s2 (show r ∉ [t] by simp; omega)
          have K2 : Kp V1 V2 := Sp.kp HK9.out s2 (fun x hx => by rw [List.mem_singleton.1 hx]; exact Hdt.out)
          have d0 := (HKx.out.trans K2).held cN1
          have d1 := K2.held cX1
          have y0 := kpw_cell d0
          have y1 := kpw_cell d1
          have HT2 := hid hT2
          have HR2 := hid hR2
          have HK2 := hid K2
          clear hA s2 HR9 HK9 hT2 hR2 K2
          go_wp2_with fail
          refine wp_region_tailc2 rfl (by kernel_rfl) (by kernel_rfl) (by kernel_rfl) ?_
          simp only [List.dropLast]
          repeat (first
            | go_big_quiet_skip
            | (go_big_quiet_want; go_big_quiet_op; go_big_quiet_on))
          refine wpQuiet_nil ?_
          rintro w9 ⟨p, hp9⟩
          have kD : Kp V2 w9 := by rw [hp9]; exact kpw_kp V2 p
          have hA := radd_any r _ 0 Y b0 w9 (HR2.out.kp kD) (pS_ok X Y a0 b0 1) hn1.2
          have HT9 := hid (HT2.out.kp kD)
          have HK9 := hid (HK2.out.trans kD)
          clear hp9 y0 y1 d0 d1 kD HT2 HR2 HK2
          go_wp2_with fail
          refine hA.mono ?_; rintro e V3 ⟨rfl, hR3, s3⟩
          have HT3 : Hid (TlIn V3 t (pS X Y a0 b0 2)) := HT9.out.sp s3 (show t ∉ [r] by simp; omega)
          have HR3 : Hid (TlIn V3 r (pS X Y a0 b0 2)) := hR3
          have HK3 : Hid (Kp V1 V3) := Sp.kp HK9.out s3 (fun x hx => by rw [List.mem_singleton.1 hx]; exact Hdr.out)
          clear hA s3 HT9 HK9 hR3
          go_wp2
          go_roundw
          case rel => exact ⟨2, by omega, by go_num, HT3, HR3, HK3⟩
          case measure => simp [intOf]
        · have d0 := HKV.out.held cX0
          have d1 := HKV.out.held cX1
          have y0 := kpw_cell d0
          have y1 := kpw_cell d1
          have hP := fun p => part_any t _ 0 X Y (kpw wr p) (HT.out.kp (kpw_kp wr p)) (pS_ok X Y a0 b0 2)
          have hQ := fun p => rpart_any r _ 0 X Y (kpw wr p) (HR.out.kp (kpw_kp wr p)) (pS_ok X Y a0 b0 2)
          go_wp2_with fail
          refine wp_region_kp (by kernel_rfl) (by kernel_rfl) ?_
          repeat (first
            | go_big_quiet_skip
            | (go_big_quiet_want; go_big_quiet_op; go_big_quiet_on)
            | (go_big_quiet_want; go_big_quiet_op; apply Exists.intro; refine ⟨fun p => ?_, ?_⟩; (focus
                first
                | (go_at_call 15; exact kp_call (hP _))
                | (go_at_call 16; exact kp_call (hQ _))); go_big_quiet_on))
          refine wpQuiet_nil ?_
          rintro w9 ⟨p, hp9⟩
          have HK9 : Hid (Kp W w9) := by show Kp W w9; rw [hp9]; exact (HKx.out.trans HKV.out).trans (kpw_kp wr p)
          clear hp9 y0 y1 d0 d1 hP hQ HT HR HKV
          go_wp2
          go_roundw
          case rel => exact ⟨i + 1, by omega, by go_num, HK9⟩
          case measure => simp [intOf]; omega
    · have hW := wakes_any wr (HN.out.kp (HKw.out.trans HKr.out))
      have h15 := mask15 a2
      have HK1 := hid (HKw.out.trans HKr.out)
      clear HL HKr
      go_wp2_with fail
      refine hW.mono ?_; rintro e v1 ⟨rfl, k1⟩
      have HK2 := hid (HK1.out.trans k1)
      clear hW k1 HK1
      go_wp2_with fail
      refine (name_any _ v1 (HN.out.kp HK2.out)).mono ?_; rintro e v2 ⟨rfl, rfl⟩
      go_wp2_with fail
      refine (rname_any _ v2).mono ?_; rintro e v3 ⟨rfl, k3⟩
      have HK3 := hid (HK2.out.trans k3)
      clear k3 HK2
      go_wp2_with fail
      refine (name_any _ v3 (HN.out.kp HK3.out)).mono ?_; rintro e v4 ⟨rfl, rfl⟩
      go_wp2_with fail
      refine (rname_any _ v4).mono ?_; rintro e v5 ⟨rfl, k5⟩
      have HK5 := hid (HK3.out.trans k5)
      clear k5 HK3
      go_wp2
      go_ret
      exact ⟨rfl, HK5⟩

set_option maxRecDepth 100000 in
theorem lifted (os : Os) (started : os.Started) (H : Type) (enc : TypeId × Value → H) :
    ReturnsInHanded {} Tryd.checked os 4 .any (fun w args => (Rows.tallyPartsSpec.pre enc Tryd.prog Tryd.f4 [] false w args ∧ laidMetH Tryd.prog lz w) ∧ sizedMet enc Tryd.prog Tryd.f4 (OpenSpec.ofChange Rows.tallyPartsSpec) false w args)
      (Rows.tallyPartsSpec.post enc Tryd.prog Tryd.f4 false true false false) := by
  refine returnsInHanded_of_change_and (C := Tryd.checked) (X := fun w _ => laidMetH Tryd.prog lz w) (fun _ _ _ hh h => h.of_heap hh) own started (by kernel_rfl) Tryd.func4
    (ChangeSpec.witness_shaped (enc := enc) (C := Tryd.checked) (os := os) (X := fun w _ => laidMetH Tryd.prog lz w) false (World.doorLaid Tryd.prog 400 os) #[.agg #[.int .i64 0, .int .i64 0], .agg #[.int .i64 0, .int .i64 0], .int .i64 0] 8 rfl (World.shaped_of_RefB (by kernel_rfl) (by kernel_rfl)) (by kernel_rfl) (by kernel_rfl) (by kernel_rfl) (door_met os _)) ?_
  intro W base args ds gs before hval0 hW hcnd _ hL _
  have hval : ∀ (j : Nat) t v, Tryd.f4.params[j]? = some t → args[j]? = some v → Value.okWide Tryd.prog W .any base t v := hval0
  have hW' := hW
  have hlt := hW.lt
  obtain ⟨p, q, hA0, hV, rfl, hfz, hnd⟩ := hW
  have hA : DataW.TrodAll enc Tryd.prog W 0 (fun _ => true) true Tryd.f4.params.toList args.toList ds p := hA0
  have hAk := hA
  rw [Tryd.params4] at hA hval
  obtain ⟨v0, vs0, d0, ds0, p0, q0, hargs, rfl, rfl, h0, r0⟩ := trodAll_cons hA
  obtain ⟨v1, vs1, d1, ds1, p1, q1, rfl, rfl, rfl, h1, r1⟩ := trodAll_cons r0
  obtain ⟨v2, vs2, d2, ds2, p2, q2, rfl, rfl, rfl, h2, r2⟩ := trodAll_cons r1
  obtain ⟨rfl, rfl, rfl⟩ := trodAll_nil r2
  obtain rfl : args = #[v0, v1, v2] := by cases args; simp_all
  obtain ⟨rfl, rfl⟩ := trodVars_none hV
  obtain ⟨a0, b0, rfl, w0, x0⟩ := open_i2 Tryd.underlying40 Tryd.underlying2 cellsL cellsM (hval 0 40 v0 rfl rfl) h0
  obtain ⟨a1, b1, rfl, w1, x1⟩ := open_i2 Tryd.underlying41 Tryd.underlying3 cellsI cellsJ (hval 1 41 v1 rfl rfl) h1
  obtain ⟨a2, rfl, rfl, rfl, w2⟩ := open_int Tryd.underlying3 (hval 2 3 v2 rfl rfl) h2
  clear hA0 hval0
  simp only [List.append_nil] at hW' hAk hlt
  refine (walk W (of_laid hL) a0 b0 a1 b1 a2 w0 x0 w1 x1 w2).mono fun e W' ⟨he, hg⟩ => ?_
  subst he
  exact ⟨_, rfl, post_kp (pv := []) hW' (fun _ _ _ => (trodAll_cons_mk (shut_bool Tryd.underlying4 _) trodAll_mk0)) (fun sp hsp => trodAll_stays laidOut (by rw [Tryd.params4]; exact of_decide_eq_true (by kernel_rfl)) hAk (fun x hx => Below.same hg (hlt x hx)) hsp) (fun _ _ => rfl) (by simp) hg⟩

theorem over : Rows.tallyPartsRow.holds Tryd.pinned (OpenSpec.ofChange Rows.tallyPartsSpec) :=
  OpenClaim.holds_of_wide 4 Tryd.f4 rfl rfl rfl rfl rfl rfl rfl ⟨rfl, rfl, rfl, rfl, rfl⟩ rfl rfl rfl rfl rfl (by kernel_rfl) Tryd.func4 (by kernel_rfl)
    (of_decide_eq_true (by kernel_rfl)) (by unfold Func.isWrapper; first | (rw [if_pos (by decide +kernel)]; kernel_rfl) | (rw [if_neg (by decide +kernel)]; exact ⟨rfl, rfl⟩))
    (fun os started H enc _ => lifted os started H enc)

theorem card : Claim7.holds Tryd.pinned (.plain (OpenSpec.ofChange Rows.tallyPartsSpec)) Rows.tallyPartsCard :=
  Claim7.holds_tied_plain_at .later [] [.data] true Rows.tallyPartsCard.stood.harness false
    over (fun _ h => by cases h) (by kernel_rfl) (fun _ h => by cases h) tallyParts_row_tie rfl ⟨rfl, rfl⟩ (by kernel_rfl) rfl
    (fun f fn hf hfn => by
      have e : some f = some 4 := hf.symm.trans (by kernel_rfl)
      obtain rfl := Option.some.inj e
      obtain rfl : fn = Tryd.f4 := (Option.some.inj (Tryd.func4.symm.trans hfn)).symm
      exact ⟨by kernel_rfl, fun j t ht => by
        rw [Tryd.params4] at ht
        have hm : t ∈ [40, 41, 3] := by simpa using Array.mem_of_getElem? ht
        have hall : ([40, 41, 3].all fun u => !Tryd.prog.wantsStandIn u) = true := by kernel_rfl
        exact (show Tryd.prog.wantsStandIn t = false by simpa using List.all_eq_true.1 hall t hm)⟩)
    (by kernel_rfl)

end Go.Proofs.YtlhiienmhglieaaDoor.tallyParts
namespace Go.Proofs.YtlhiienmhglieaaDoor
theorem tallyParts_holds : Rows.TallyPartsCardSaid := tallyParts.card
end Go.Proofs.YtlhiienmhglieaaDoor
