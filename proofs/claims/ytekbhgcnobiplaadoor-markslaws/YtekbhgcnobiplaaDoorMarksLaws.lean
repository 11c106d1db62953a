/-
  For every three sets of four words the law function MarksLaws returns true (Go: trunnionlaw07.MarksLaws). Condition: the library table math/bits.deBruijn64tab reads as its text lays it (the card ties it).
-/
import Derived.Test.YtekbhgcnobiplaaDoorRows
import Derived.Test.YtekbhgcnobiplaaDoorCards
import Derived.Test.YtekbhgcnobiplaaDoorTie
import Derived.Test.YtekbhgcnobiplaaDoorMkDoor
import Derived.Test.YtekbhgcnobiplaaDoorMkDoor
import Derived.Test.YtekbhgcnobiplaaDoorBufCls
import Derived.WalkKit
import Derived.ProofKit
import Derived.OpenShut
import Derived.ShutString
import Derived.LaidMore
import Derived.SevenTiedAt
import Derived.Stop.Joined
import Derived.RegionTactic
import Derived.BigRegion
import Derived.BigQuiet
import Derived.Deep.RegionWith
import Derived.Deep.DeepCutAuto
namespace Go.Proofs.YtekbhgcnobiplaaDoor.marksLaws
open Go.ChangeShapes Go.WideShapes Go.ChangeAt Go.RowKit
open Go.ChangeMaps (open_string shut_string)
open Go.Proofs.YtekbhgcnobiplaaDoor Plain Go.BigFrame
set_option linter.unusedVariables false

theorem own : ownKnob Tryd.prog.godebug = none := by kernel_rfl
theorem laidOut : laidOutB Tryd.prog = true := by kernel_rfl
theorem cellsU : Tryd.prog.cellsOf 23 = 1 := by kernel_rfl
theorem cellsV : Tryd.prog.cellsOf 24 = 4 := by kernel_rfl
theorem eq_self (f : Nat → Bool) (w : World) : (Op.equalIn 10000 25 (SV f) (SV f)).run Tryd.prog w = .ok true w := by
  rw [eqS, eqB_of (fun _ _ => rfl)]
theorem mask8 (n : Int) : bits .and .i64 n 255 = n % 256 := by
  have h : (BitVec.ofInt 64 255).toNat = 2 ^ 8 - 1 := by decide
  have key : (BitVec.ofInt 64 n &&& BitVec.ofInt 64 255).toNat = (n % ((2 ^ 64 : Nat) : Int)).toNat % 2 ^ 8 := by
    rw [BitVec.toNat_and, BitVec.toNat_ofInt, h, Nat.and_two_pow_sub_one_eq_mod]
  show IntKind.i64.wrap ((BitVec.ofInt 64 n &&& BitVec.ofInt 64 255).toNat : Nat) = n % 256
  rw [key, IntKind.wrap_i64]
  omega
theorem eqT {f g : Nat → Bool} (h : ∀ i, f i = g i) (w : World) : (Op.equalIn 10000 25 (.agg #[.int .u64 ((wd f 0 : Nat) : Int), .int .u64 ((wd f 1 : Nat) : Int), .int .u64 ((wd f 2 : Nat) : Int), .int .u64 ((wd f 3 : Nat) : Int)]) (.agg #[.int .u64 ((wd g 0 : Nat) : Int), .int .u64 ((wd g 1 : Nat) : Int), .int .u64 ((wd g 2 : Nat) : Int), .int .u64 ((wd g 3 : Nat) : Int)])).run Tryd.prog w = .ok true w := by
  have := eqS f g w
  rw [eqB_of (fun i _ => h i)] at this
  exact this
theorem orU (f g : Nat → Bool) (w : World) : Calls Tryd.prog 19 #[.agg #[.int .u64 ((wd f 0 : Nat) : Int), .int .u64 ((wd f 1 : Nat) : Int), .int .u64 ((wd f 2 : Nat) : Int), .int .u64 ((wd f 3 : Nat) : Int)], .agg #[.int .u64 ((wd g 0 : Nat) : Int), .int .u64 ((wd g 1 : Nat) : Int), .int .u64 ((wd g 2 : Nat) : Int), .int .u64 ((wd g 3 : Nat) : Int)]] w fun e w' => e = .returned (.agg #[.int .u64 ((wd (orF f g) 0 : Nat) : Int), .int .u64 ((wd (orF f g) 1 : Nat) : Int), .int .u64 ((wd (orF f g) 2 : Nat) : Int), .int .u64 ((wd (orF f g) 3 : Nat) : Int)]) ∧ Kp w w' := or_any f g w
theorem andU (f g : Nat → Bool) (w : World) : Calls Tryd.prog 21 #[.agg #[.int .u64 ((wd f 0 : Nat) : Int), .int .u64 ((wd f 1 : Nat) : Int), .int .u64 ((wd f 2 : Nat) : Int), .int .u64 ((wd f 3 : Nat) : Int)], .agg #[.int .u64 ((wd g 0 : Nat) : Int), .int .u64 ((wd g 1 : Nat) : Int), .int .u64 ((wd g 2 : Nat) : Int), .int .u64 ((wd g 3 : Nat) : Int)]] w fun e w' => e = .returned (.agg #[.int .u64 ((wd (andF f g) 0 : Nat) : Int), .int .u64 ((wd (andF f g) 1 : Nat) : Int), .int .u64 ((wd (andF f g) 2 : Nat) : Int), .int .u64 ((wd (andF f g) 3 : Nat) : Int)]) ∧ Kp w w' := and_any f g w
theorem lessU (f g : Nat → Bool) (w : World) : Calls Tryd.prog 22 #[.agg #[.int .u64 ((wd f 0 : Nat) : Int), .int .u64 ((wd f 1 : Nat) : Int), .int .u64 ((wd f 2 : Nat) : Int), .int .u64 ((wd f 3 : Nat) : Int)], .agg #[.int .u64 ((wd g 0 : Nat) : Int), .int .u64 ((wd g 1 : Nat) : Int), .int .u64 ((wd g 2 : Nat) : Int), .int .u64 ((wd g 3 : Nat) : Int)]] w fun e w' => e = .returned (.agg #[.int .u64 ((wd (lessF f g) 0 : Nat) : Int), .int .u64 ((wd (lessF f g) 1 : Nat) : Int), .int .u64 ((wd (lessF f g) 2 : Nat) : Int), .int .u64 ((wd (lessF f g) 3 : Nat) : Int)]) ∧ Kp w w' := less_any f g w
theorem countU (f : Nat → Bool) (w : World) : Calls Tryd.prog 23 #[.agg #[.int .u64 ((wd f 0 : Nat) : Int), .int .u64 ((wd f 1 : Nat) : Int), .int .u64 ((wd f 2 : Nat) : Int), .int .u64 ((wd f 3 : Nat) : Int)]] w fun e w' => e = .returned (.int .i64 (cn 256 f : Nat)) ∧ Kp w w' := count_any f w
theorem emptyU (f : Nat → Bool) (w : World) : Calls Tryd.prog 24 #[.agg #[.int .u64 ((wd f 0 : Nat) : Int), .int .u64 ((wd f 1 : Nat) : Int), .int .u64 ((wd f 2 : Nat) : Int), .int .u64 ((wd f 3 : Nat) : Int)]] w fun e w' => e = .returned (.bool (emB f)) ∧ Kp w w' := empty_any f w
theorem A4.one3 (w : World) (a b c : Nat → Nat) (t : TypeId) : A4 (((w.alloc (.cells (w4 a) t)).alloc (.cells (w4 b) t)).alloc (.cells (w4 c) t)).drew w.heap.size a := (((A4.new w a t).alloc _).alloc _).drew
theorem A4.two3 (w : World) (a b c : Nat → Nat) (t : TypeId) : A4 (((w.alloc (.cells (w4 a) t)).alloc (.cells (w4 b) t)).alloc (.cells (w4 c) t)).drew (w.heap.size + 1) b := by
  have := ((A4.new (w.alloc (.cells (w4 a) t)) b t).alloc (.cells (w4 c) t)).drew
  simpa using this
theorem A4.three3 (w : World) (a b c : Nat → Nat) (t : TypeId) : A4 (((w.alloc (.cells (w4 a) t)).alloc (.cells (w4 b) t)).alloc (.cells (w4 c) t)).drew (w.heap.size + 1 + 1) c := by
  have := (A4.new ((w.alloc (.cells (w4 a) t)).alloc (.cells (w4 b) t)) c t).drew
  simpa using this
set_option maxRecDepth 100000 in
set_option maxHeartbeats 8000000 in
theorem walkN (f g h : Nat → Bool) (w : World) (hT : Tab w) : Calls Tryd.prog 7 #[SV f, SV g, SV h] w fun e w' => e = .returned (.bool true) ∧ Kp w w' := by
  unfold SV
  obtain ⟨u, hu⟩ : ∃ u, u = wd f := ⟨_, rfl⟩
  obtain ⟨v, hv⟩ : ∃ v, v = wd g := ⟨_, rfl⟩
  obtain ⟨x, hx⟩ : ∃ x, x = wd h := ⟨_, rfl⟩
  rw [← hu, ← hv, ← hx]
  have HU : Hid (u = wd f ∧ v = wd g ∧ x = wd h) := ⟨hu, hv, hx⟩
  clear hu hv hx
  obtain ⟨w0, hw0⟩ : ∃ w0, w0 = ((w.alloc (.cells (w4 u) 24)).alloc (.cells (w4 v) 24)).alloc (.cells (w4 x) 24) := ⟨_, rfl⟩
  have k0 : Kp w w0 := by rw [hw0]; exact (((Kp.refl w).alloc _).alloc _).alloc _
  have aF : A4 w0 w.heap.size u := by rw [hw0]; exact ((A4.new w u _).alloc _).alloc _
  have aG : A4 w0 (w.heap.size + 1) v := by rw [hw0]; have := (A4.new (w.alloc (.cells (w4 u) 24)) v 24).alloc (.cells (w4 x) 24); simpa using this
  have aH : A4 w0 (w.heap.size + 1 + 1) x := by rw [hw0]; have := A4.new ((w.alloc (.cells (w4 u) 24)).alloc (.cells (w4 v) 24)) x 24; simpa using this
  have HW : Hid (w0 = ((w.alloc (.cells (w4 u) 24)).alloc (.cells (w4 v) 24)).alloc (.cells (w4 x) 24)) := hw0
  clear hw0
  go_enter Tryd.func7, Tryd.ntmps7
  go_wp2_with fail
  rw [show ((w.alloc (.cells #[.int .u64 ((u 0 : Nat) : Int), .int .u64 ((u 1 : Nat) : Int), .int .u64 ((u 2 : Nat) : Int), .int .u64 ((u 3 : Nat) : Int)] 24)).alloc (.cells #[.int .u64 ((v 0 : Nat) : Int), .int .u64 ((v 1 : Nat) : Int), .int .u64 ((v 2 : Nat) : Int), .int .u64 ((v 3 : Nat) : Int)] 24)).alloc (.cells #[.int .u64 ((x 0 : Nat) : Int), .int .u64 ((x 1 : Nat) : Int), .int .u64 ((x 2 : Nat) : Int), .int .u64 ((x 3 : Nat) : Int)] 24) = w0 from HW.out.symm]
  clear HW
  go_cut [7, 8, 9] (fun s t r wx => ∃ P Q R, s = .pointer (some ⟨P, 0, none⟩) ∧ t = .pointer (some ⟨Q, 0, none⟩) ∧ r = .pointer (some ⟨R, 0, none⟩) ∧ A4 wx P u ∧ A4 wx Q v ∧ A4 wx R x ∧ Kp w wx)
  case first =>
    obtain ⟨c0, c1, c2, c3⟩ := aF.cells
    obtain ⟨d0, d1, d2, d3⟩ := aG.cells
    obtain ⟨b0, b1, b2, b3⟩ := aH.cells
    have z1 := aF.lt
    have z2 := aG.lt
    have z3 := aH.lt
    have HR : Hid (∀ W, Kp w0 W → Kp w W) := fun W hW => k0.trans hW
    have hs : ∀ W, Kp w0 W → W.cell? ⟨w.heap.size, 0, none⟩ = some (.int .u64 (u 0 : Nat)) ∧ W.cell? ⟨w.heap.size, 1, none⟩ = some (.int .u64 (u 1 : Nat)) ∧ W.cell? ⟨w.heap.size, 2, none⟩ = some (.int .u64 (u 2 : Nat)) ∧ W.cell? ⟨w.heap.size, 3, none⟩ = some (.int .u64 (u 3 : Nat)) ∧ W.cell? ⟨w.heap.size + 1, 0, none⟩ = some (.int .u64 (v 0 : Nat)) ∧ W.cell? ⟨w.heap.size + 1, 1, none⟩ = some (.int .u64 (v 1 : Nat)) ∧ W.cell? ⟨w.heap.size + 1, 2, none⟩ = some (.int .u64 (v 2 : Nat)) ∧ W.cell? ⟨w.heap.size + 1, 3, none⟩ = some (.int .u64 (v 3 : Nat)) ∧ W.cell? ⟨w.heap.size + 1 + 1, 0, none⟩ = some (.int .u64 (x 0 : Nat)) ∧ W.cell? ⟨w.heap.size + 1 + 1, 1, none⟩ = some (.int .u64 (x 1 : Nat)) ∧ W.cell? ⟨w.heap.size + 1 + 1, 2, none⟩ = some (.int .u64 (x 2 : Nat)) ∧ W.cell? ⟨w.heap.size + 1 + 1, 3, none⟩ = some (.int .u64 (x 3 : Nat)) := fun W hW => ⟨hW.held c0, hW.held c1, hW.held c2, hW.held c3, hW.held d0, hW.held d1, hW.held d2, hW.held d3, hW.held b0, hW.held b1, hW.held b2, hW.held b3⟩
    clear aF aG aH k0 HU
    go_region_held3 (fun W => W.cell? ⟨w.heap.size, 0, none⟩ = some (.int .u64 (u 0 : Nat)) ∧ W.cell? ⟨w.heap.size, 1, none⟩ = some (.int .u64 (u 1 : Nat)) ∧ W.cell? ⟨w.heap.size, 2, none⟩ = some (.int .u64 (u 2 : Nat)) ∧ W.cell? ⟨w.heap.size, 3, none⟩ = some (.int .u64 (u 3 : Nat)) ∧ W.cell? ⟨w.heap.size + 1, 0, none⟩ = some (.int .u64 (v 0 : Nat)) ∧ W.cell? ⟨w.heap.size + 1, 1, none⟩ = some (.int .u64 (v 1 : Nat)) ∧ W.cell? ⟨w.heap.size + 1, 2, none⟩ = some (.int .u64 (v 2 : Nat)) ∧ W.cell? ⟨w.heap.size + 1, 3, none⟩ = some (.int .u64 (v 3 : Nat)) ∧ W.cell? ⟨w.heap.size + 1 + 1, 0, none⟩ = some (.int .u64 (x 0 : Nat)) ∧ W.cell? ⟨w.heap.size + 1 + 1, 1, none⟩ = some (.int .u64 (x 1 : Nat)) ∧ W.cell? ⟨w.heap.size + 1 + 1, 2, none⟩ = some (.int .u64 (x 2 : Nat)) ∧ W.cell? ⟨w.heap.size + 1 + 1, 3, none⟩ = some (.int .u64 (x 3 : Nat))) (first | exact ⟨c0, c1, c2, c3, d0, d1, d2, d3, b0, b1, b2, b3⟩ | (refine hs _ ?_; repeat (first | exact Kp.refl _ | refine Kp.alloc ?_ _ | refine Kp.drew ?_ | refine Kp.set ?_ (by simp <;> omega) _ _))) (fail)
    all_goals (go_wp2_with fail; go_meet)
    all_goals (refine ⟨_, _, _, rfl, rfl, rfl, ?_, ?_, ?_, HR.out _ ((((Kp.refl w0).alloc _).alloc _).alloc _).drew⟩)
    all_goals first | exact A4.one3 w0 _ _ _ _ | exact A4.two3 w0 _ _ _ _ | exact A4.three3 w0 _ _ _ _
  obtain ⟨P, Q, R, rfl, rfl, rfl, aP, aQ, aR, K1⟩ := hcut
  clear aF aG aH k0
  obtain ⟨W, hW⟩ : ∃ W, W = wc := ⟨_, rfl⟩
  rw [← hW] at aP aQ aR K1 ⊢
  clear hW
  obtain ⟨p0, p1, p2, p3⟩ := aP.cells
  obtain ⟨p4, p5, p6, p7⟩ := aQ.cells
  obtain ⟨p8, p9, pa, pb⟩ := aR.cells
  rw [HU.out.1] at p0 p1 p2 p3 ⊢
  rw [HU.out.2.1] at p4 p5 p6 p7 ⊢
  rw [HU.out.2.2] at p8 p9 pa pb ⊢
  clear aP aQ aR HU
  have q0 := kpw_cell p0
  have q1 := kpw_cell p1
  have q2 := kpw_cell p2
  have q3 := kpw_cell p3
  have q4 := kpw_cell p4
  have q5 := kpw_cell p5
  have q6 := kpw_cell p6
  have q7 := kpw_cell p7
  have q8 := kpw_cell p8
  have q9 := kpw_cell p9
  have qa := kpw_cell pa
  have qb := kpw_cell pb
  clear p0 p1 p2 p3 p4 p5 p6 p7 p8 p9 pa pb
  have T1 := hT.kp K1
  have hTp : ∀ p, Tab (kpw W p) := fun p => T1.kp (kpw_kp W p)
  have e1 := eqT (f := orF f g) (g := orF g f) (fun i => Bool.or_comm _ _)
  have e2 := eqT (f := andF f g) (g := andF g f) (fun i => Bool.and_comm _ _)
  have e3 := eqT (f := orF f (orF g h)) (g := orF (orF f g) h) (fun i => (Bool.or_assoc _ _ _).symm)
  have e4 := eqT (f := andF f (orF g h)) (g := orF (andF f g) (andF f h)) (fun i => Bool.and_or_distrib_left _ _ _)
  have e5 := eqT (f := orF (lessF f g) (andF f g)) (g := f) (fun i => by unfold orF lessF andF; cases f i <;> cases g i <;> rfl)
  have e6 : emB (andF (lessF f g) g) = true := emB_of (fun i _ => by unfold andF lessF; cases f i <;> cases g i <;> rfl)
  have l1 := cn_le 256 (orF f g)
  have l2 := cn_le 256 (andF f g)
  have l3 := cn_le 256 f
  have l4 := cn_le 256 g
  have e7 : ((cn 256 (orF f g) : Nat) : Int) + ((cn 256 (andF f g) : Nat) : Int) = ((cn 256 f : Nat) : Int) + ((cn 256 g : Nat) : Int) := by
    have := cn_both 256 f g
    rw [show (fun j => f j || g j) = orF f g from rfl, show (fun j => f j && g j) = andF f g from rfl] at this
    omega
  have e8 : IntKind.i64.wrap (((cn 256 (orF f g) : Nat) : Int) + ((cn 256 (andF f g) : Nat) : Int)) = ((cn 256 f : Nat) : Int) + ((cn 256 g : Nat) : Int) := by rw [e7, IntKind.wrap_i64]; omega
  have e9 : IntKind.i64.wrap (((cn 256 f : Nat) : Int) + ((cn 256 g : Nat) : Int)) = ((cn 256 f : Nat) : Int) + ((cn 256 g : Nat) : Int) := by rw [IntKind.wrap_i64]; omega
  go_wp2_with fail
  refine wp_region_kp (by kernel_rfl) (by kernel_rfl) ?_
  simp only [List.append_eq, List.cons_append, List.nil_append]
  repeat (first
    | go_big_quiet_skip
    | (go_big_quiet_want; go_big_quiet_op; go_big_quiet_on)
    | (go_big_quiet_want; go_big_quiet_op; apply Exists.intro; refine ⟨fun p => ?_, ?_⟩; (focus
        first
        | (go_at_call 15; exact kp_call (wakes_any _ (hTp _)))
        | (go_at_call 19; exact kp_call (orU _ _ _))
        | (go_at_call 21; exact kp_call (andU _ _ _))
        | (go_at_call 22; exact kp_call (lessU _ _ _))
        | (go_at_call 23; exact kp_call (countU _ _))
        | (go_at_call 24; exact kp_call (emptyU _ _))); go_big_quiet_on))
  refine wpQuiet_nil ?_
  rintro w5 ⟨p, rfl⟩
  go_wp2
  go_ret
  exact ⟨rfl, K1.trans (kpw_kp W p)⟩
theorem walk (w : World) (hT : Tab w) (f0 : Nat → Bool) (f1 : Nat → Bool) (f2 : Nat → Bool)  :
    Calls Tryd.prog 7 #[SV f0, SV f1, SV f2] w fun e w' => e = .returned (.bool true) ∧ Kp w w' := by
  exact walkN f0 f1 f2 w hT

set_option maxRecDepth 100000 in
theorem lifted (os : Os) (started : os.Started) (H : Type) (enc : TypeId × Value → H) :
    ReturnsInHanded {} Tryd.checked os 7 .any (fun w args => (Rows.marksLawsSpec.pre enc Tryd.prog Tryd.f7 [] false w args ∧ laidMetH Tryd.prog lz w) ∧ sizedMet enc Tryd.prog Tryd.f7 (OpenSpec.ofChange Rows.marksLawsSpec) false w args)
      (Rows.marksLawsSpec.post enc Tryd.prog Tryd.f7 false true false false) := by
  refine returnsInHanded_of_change_and (C := Tryd.checked) (X := fun w _ => laidMetH Tryd.prog lz w) (fun _ _ _ hh h => h.of_heap hh) own started (by kernel_rfl) Tryd.func7
    (ChangeSpec.witness_shaped (enc := enc) (C := Tryd.checked) (os := os) (X := fun w _ => laidMetH Tryd.prog lz w) false (World.doorLaid Tryd.prog 400 os) #[.agg #[.int .u64 0, .int .u64 0, .int .u64 0, .int .u64 0], .agg #[.int .u64 0, .int .u64 0, .int .u64 0, .int .u64 0], .agg #[.int .u64 0, .int .u64 0, .int .u64 0, .int .u64 0]] 8 rfl (World.shaped_of_RefB (by kernel_rfl) (by kernel_rfl)) (by kernel_rfl) (by kernel_rfl) (by kernel_rfl) (door_met os _)) ?_
  intro W base args ds gs before hval0 hW hcnd _ hL _
  have hval : ∀ (j : Nat) t v, Tryd.f7.params[j]? = some t → args[j]? = some v → Value.okWide Tryd.prog W .any base t v := hval0
  have hW' := hW
  have hlt := hW.lt
  obtain ⟨p, q, hA0, hV, rfl, hfz, hnd⟩ := hW
  have hA : DataW.TrodAll enc Tryd.prog W 0 (fun _ => true) true Tryd.f7.params.toList args.toList ds p := hA0
  have hAk := hA
  rw [Tryd.params7] at hA hval
  obtain ⟨v0, vs0, d0, ds0, p0, q0, hargs, rfl, rfl, h0, r0⟩ := trodAll_cons hA
  obtain ⟨v1, vs1, d1, ds1, p1, q1, rfl, rfl, rfl, h1, r1⟩ := trodAll_cons r0
  obtain ⟨v2, vs2, d2, ds2, p2, q2, rfl, rfl, rfl, h2, r2⟩ := trodAll_cons r1
  obtain ⟨rfl, rfl, rfl⟩ := trodAll_nil r2
  obtain rfl : args = #[v0, v1, v2] := by cases args; simp_all
  obtain ⟨rfl, rfl⟩ := trodVars_none hV
  obtain ⟨a0, b0, c0, e0, rfl, w0, x0, y0, z0⟩ := open_set4 Tryd.underlying24 Tryd.underlying23 cellsU cellsV (hval 0 24 v0 rfl rfl) h0
  obtain ⟨f0, hf0⟩ := set_value a0 b0 c0 e0 w0 x0 y0 z0
  obtain ⟨a1, b1, c1, e1, rfl, w1, x1, y1, z1⟩ := open_set4 Tryd.underlying24 Tryd.underlying23 cellsU cellsV (hval 1 24 v1 rfl rfl) h1
  obtain ⟨f1, hf1⟩ := set_value a1 b1 c1 e1 w1 x1 y1 z1
  obtain ⟨a2, b2, c2, e2, rfl, w2, x2, y2, z2⟩ := open_set4 Tryd.underlying24 Tryd.underlying23 cellsU cellsV (hval 2 24 v2 rfl rfl) h2
  obtain ⟨f2, hf2⟩ := set_value a2 b2 c2 e2 w2 x2 y2 z2
  clear hA0 hval0
  simp only [List.append_nil] at hW' hAk hlt
  have hwk := walk W (of_laid hL) f0 f1 f2 
  rw [← hf0] at hwk
  rw [← hf1] at hwk
  rw [← hf2] at hwk
  refine hwk.mono fun e W' ⟨he, hg⟩ => ?_
  subst he
  exact ⟨_, rfl, post_kp (pv := []) hW' (fun _ _ _ => (trodAll_cons_mk (shut_bool Tryd.underlying4 _) trodAll_mk0)) (fun sp hsp => trodAll_stays laidOut (by rw [Tryd.params7]; exact of_decide_eq_true (by kernel_rfl)) hAk (fun x hx => Below.same hg (hlt x hx)) hsp) (fun _ _ => rfl) (by simp) hg⟩

theorem over : Rows.marksLawsRow.holds Tryd.pinned (OpenSpec.ofChange Rows.marksLawsSpec) :=
  OpenClaim.holds_of_wide 7 Tryd.f7 rfl rfl rfl rfl rfl rfl rfl ⟨rfl, rfl, rfl, rfl, rfl⟩ rfl rfl rfl rfl rfl (by kernel_rfl) Tryd.func7 (by kernel_rfl)
    (of_decide_eq_true (by kernel_rfl)) (by unfold Func.isWrapper; first | (rw [if_pos (by decide +kernel)]; kernel_rfl) | (rw [if_neg (by decide +kernel)]; exact ⟨rfl, rfl⟩))
    (fun os started H enc _ => lifted os started H enc)

theorem card : Claim7.holds Tryd.pinned (.plain (OpenSpec.ofChange Rows.marksLawsSpec)) Rows.marksLawsCard :=
  Claim7.holds_tied_plain_at .later [] [.data] true Rows.marksLawsCard.stood.harness false
    over (fun _ h => by cases h) (by kernel_rfl) (fun _ h => by cases h) marksLaws_row_tie rfl ⟨rfl, rfl⟩ (by kernel_rfl) rfl
    (fun f fn hf hfn => by
      have e : some f = some 7 := hf.symm.trans (by kernel_rfl)
      obtain rfl := Option.some.inj e
      obtain rfl : fn = Tryd.f7 := (Option.some.inj (Tryd.func7.symm.trans hfn)).symm
      exact ⟨by kernel_rfl, fun j t ht => by
        rw [Tryd.params7] at ht
        have hm : t ∈ [24, 24, 24] := by simpa using Array.mem_of_getElem? ht
        have hall : ([24, 24, 24].all fun u => !Tryd.prog.wantsStandIn u) = true := by kernel_rfl
        exact (show Tryd.prog.wantsStandIn t = false by simpa using List.all_eq_true.1 hall t hm)⟩)
    (by kernel_rfl)

end Go.Proofs.YtekbhgcnobiplaaDoor.marksLaws
namespace Go.Proofs.YtekbhgcnobiplaaDoor
theorem marksLaws_holds : Rows.MarksLawsCardSaid := marksLaws.card
end Go.Proofs.YtekbhgcnobiplaaDoor
