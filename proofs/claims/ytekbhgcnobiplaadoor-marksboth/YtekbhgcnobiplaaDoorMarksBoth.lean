/-
  For every two sets of four words the law function MarksBoth returns true (Go: trunnionlaw07.MarksBoth). Condition: the library table math/bits.deBruijn64tab reads as its text lays it (the card ties it).
-/
import Derived.Test.YtekbhgcnobiplaaDoorRows
import Derived.Test.YtekbhgcnobiplaaDoorCards
import Derived.Test.YtekbhgcnobiplaaDoorTie
import Derived.Test.YtekbhgcnobiplaaDoorMkDoor
import Derived.Test.YtekbhgcnobiplaaDoorMkDoor
import Derived.Test.YtekbhgcnobiplaaDoorMkBoth
import Derived.Test.YtekbhgcnobiplaaDoorMkRefL
import Derived.Test.YtekbhgcnobiplaaDoorBufCls
import Derived.WalkKit
import Derived.ProofKit
import Derived.OpenShut
import Derived.ShutString
import Derived.LaidMore
import Derived.SevenTiedAt
import Derived.Stop.Joined
import Derived.RegionTactic
import Derived.BigRegion
import Derived.BigQuiet
import Derived.Deep.RegionWith
import Derived.Deep.DeepCutAuto
namespace Go.Proofs.YtekbhgcnobiplaaDoor.marksBoth
open Go.ChangeShapes Go.WideShapes Go.ChangeAt Go.RowKit
open Go.ChangeMaps (open_string shut_string)
open Go.Proofs.YtekbhgcnobiplaaDoor Plain Go.BigFrame
set_option linter.unusedVariables false

theorem own : ownKnob Tryd.prog.godebug = none := by kernel_rfl
theorem laidOut : laidOutB Tryd.prog = true := by kernel_rfl
theorem cellsU : Tryd.prog.cellsOf 23 = 1 := by kernel_rfl
theorem cellsV : Tryd.prog.cellsOf 24 = 4 := by kernel_rfl
theorem A4.two (w : World) (u v : Nat → Nat) (t : TypeId) : A4 ((w.alloc (.cells (w4 u) t)).alloc (.cells (w4 v) t)) w.heap.size u ∧ A4 ((w.alloc (.cells (w4 u) t)).alloc (.cells (w4 v) t)) (w.heap.size + 1) v :=
  ⟨(A4.new w u t).alloc _, by have := A4.new (w.alloc (.cells (w4 u) t)) v t; simpa using this⟩
theorem eq_self (f : Nat → Bool) (w : World) : (Op.equalIn 10000 25 (SV f) (SV f)).run Tryd.prog w = .ok true w := by
  rw [eqS, eqB_of (fun _ _ => rfl)]
theorem IntsIn_slice {w : World} {v : Value} {l : List Int} (h : IntsIn w v l) : ∃ a cap, v = .slice a l.length cap := by
  cases h with
  | empty a cap h => exact ⟨a, cap, rfl⟩
  | some b off cap l h0 h1 h2 hc => exact ⟨_, cap, rfl⟩
theorem em_count (f : Nat → Bool) : emB f = decide (cn 256 f = 0) := by
  rw [← fl_len]
  by_cases h : (fl 256 f).length = 0
  · rw [decide_eq_true h]
    refine emB_of (fun i hi => ?_)
    cases e : f i with
    | false => rfl
    | true =>
      have := (fl_mem 256 f i).2 ⟨hi, e⟩
      rw [List.eq_nil_of_length_eq_zero h] at this
      cases this
  · rw [decide_eq_false h]
    obtain ⟨i, hi⟩ := List.exists_mem_of_length_pos (Nat.pos_of_ne_zero h)
    have := (fl_mem 256 f i).1 hi
    exact emB_not i this.1 this.2
set_option maxRecDepth 100000 in
set_option maxHeartbeats 8000000 in
theorem walkN (f g : Nat → Bool) (w : World) (hT : Tab w) : Calls Tryd.prog 4 #[SV f, SV g] w fun e w' => e = .returned (.bool true) ∧ Kp w w' := by
  obtain ⟨w0, hw0⟩ : ∃ w0, w0 = (w.alloc (.cells (w4 (wd f)) 24)).alloc (.cells (w4 (wd g)) 24) := ⟨_, rfl⟩
  have k0 : Kp w w0 := by rw [hw0]; exact ((Kp.refl w).alloc _).alloc _
  have aF : A4 w0 w.heap.size (wd f) := by rw [hw0]; exact (A4.new w _ _).alloc _
  have aG : A4 w0 (w.heap.size + 1) (wd g) := by
    have := A4.new (w.alloc (.cells (w4 (wd f)) 24)) (wd g) 24
    rw [hw0]; simpa using this
  have HW : Hid (w0 = (w.alloc (.cells (w4 (wd f)) 24)).alloc (.cells (w4 (wd g)) 24)) := hw0
  clear hw0
  unfold SV
  go_enter Tryd.func4, Tryd.ntmps4
  go_wp2_with fail
  rw [show (w.alloc (.cells #[.int .u64 ((wd f 0 : Nat) : Int), .int .u64 ((wd f 1 : Nat) : Int), .int .u64 ((wd f 2 : Nat) : Int), .int .u64 ((wd f 3 : Nat) : Int)] 24)).alloc (.cells #[.int .u64 ((wd g 0 : Nat) : Int), .int .u64 ((wd g 1 : Nat) : Int), .int .u64 ((wd g 2 : Nat) : Int), .int .u64 ((wd g 3 : Nat) : Int)] 24) = w0 from HW.out.symm]
  clear HW
  go_cut [5, 6] (fun s t wx => ∃ P Q, s = .pointer (some ⟨P, 0, none⟩) ∧ t = .pointer (some ⟨Q, 0, none⟩) ∧ A4 wx P (wd f) ∧ A4 wx Q (wd g) ∧ A4 wx w.heap.size (wd f) ∧ A4 wx (w.heap.size + 1) (wd g) ∧ Kp w wx)
  case first =>
    obtain ⟨c0, c1, c2, c3⟩ := aF.cells
    obtain ⟨d0, d1, d2, d3⟩ := aG.cells
    have z1 := aF.lt
    have z2 := aG.lt
    have HR : Hid (∀ W, Kp w0 W → A4 W w.heap.size (wd f) ∧ A4 W (w.heap.size + 1) (wd g) ∧ Kp w W) := fun W hW => ⟨aF.kept hW, aG.kept hW, k0.trans hW⟩
    clear aF aG k0
    go_region
    all_goals (go_wp2_with fail; go_meet)
    · exact ⟨w0.heap.size, w0.heap.size + 1, rfl, rfl, (A4.two w0 (wd f) (wd g) _).1.drew, (A4.two w0 (wd f) (wd g) _).2.drew, HR.out _ (((Kp.refl w0).alloc _).alloc _).drew⟩
    · exact ⟨w0.heap.size + 1, w0.heap.size, rfl, rfl, (A4.two w0 (wd g) (wd f) _).2.drew, (A4.two w0 (wd g) (wd f) _).1.drew, HR.out _ (((Kp.refl w0).alloc _).alloc _).drew⟩
  obtain ⟨P, Q, rfl, rfl, aP, aQ, aF', aG', K1⟩ := hcut
  clear aF aG k0
  obtain ⟨W, hW⟩ : ∃ W, W = wc := ⟨_, rfl⟩
  rw [← hW] at aP aQ aF' aG' K1 ⊢
  clear hW
  obtain ⟨c0, c1, c2, c3⟩ := aF'.cells
  have hL := rlist_any f W
  unfold SV at hL
  go_wp2_with fail
  refine hL.mono ?_; rintro e w3 ⟨v, rfl, hI, k3⟩
  clear hL c0 c1 c2 c3
  obtain ⟨a, cap, rfl⟩ := IntsIn_slice hI
  rw [List.length_map, fl_len]
  clear hI
  have K3 := K1.trans k3
  have T3 := hT.kp K3
  have q1 := (aP.kept k3).cells
  have q2 := (aQ.kept k3).cells
  have q3 := (aF'.kept k3).cells
  have q4 := (aG'.kept k3).cells
  clear aP aQ aF' aG' K1 k3
  obtain ⟨p0, p1, p2, p3⟩ := q1
  obtain ⟨p4, p5, p6, p7⟩ := q2
  obtain ⟨r0, r1, r2, r3⟩ := q3
  obtain ⟨r4, r5, r6, r7⟩ := q4
  have q0 := kpw_cell p0
  have q1 := kpw_cell p1
  have q2 := kpw_cell p2
  have q3 := kpw_cell p3
  have q4 := kpw_cell p4
  have q5 := kpw_cell p5
  have q6 := kpw_cell p6
  have q7 := kpw_cell p7
  have s0 := kpw_cell r0
  have s1 := kpw_cell r1
  have s2 := kpw_cell r2
  have s3 := kpw_cell r3
  have s4 := kpw_cell r4
  have s5 := kpw_cell r5
  have s6 := kpw_cell r6
  have s7 := kpw_cell r7
  clear p0 p1 p2 p3 p4 p5 p6 p7 r0 r1 r2 r3 r4 r5 r6 r7
  have hTp : ∀ p, Tab (kpw w3 p) := fun p => T3.kp (kpw_kp w3 p)
  have e1 := eq_self (orF f g)
  have e2 := eq_self (andF f g)
  have e3 := eq_self (lessF f g)
  have hcn := cn_le 256 f
  have hem := em_count f
  have hem2 : decide ((cn 256 f : Int) = 0) = emB f := by rw [hem]; exact decide_eq_decide.2 (by omega)
  have hem3 : ((cn 256 f : Int) == 0) = emB f := by rw [← hem2]; rfl
  clear hem hem2
  have m1 := or_any f g
  have m2 := and_any f g
  have m3 := less_any f g
  have n1 := ror_any f g
  have n2 := rand_any f g
  have n3 := rless_any f g
  have m4 := count_any f
  have m5 := empty_any f
  obtain ⟨n, hn⟩ : ∃ n, n = cn 256 f := ⟨_, rfl⟩
  rw [← hn] at hcn hem3 m4 ⊢
  clear hn
  obtain ⟨em, hee⟩ : ∃ em, em = emB f := ⟨_, rfl⟩
  rw [← hee] at hem3 m5
  clear hee
  unfold SV at e1 e2 e3 m1 m2 m3 n1 n2 n3 m4 m5
  go_wp2_with fail
  refine wp_region_kp (by kernel_rfl) (by kernel_rfl) ?_
  repeat (first
    | go_big_quiet_skip
    | (go_big_quiet_want; go_big_quiet_op; go_big_quiet_on)
    | (go_big_quiet_want; go_big_quiet_op; apply Exists.intro; refine ⟨fun p => ?_, ?_⟩; (focus
        first
        | (go_at_call 15; exact kp_call (wakes_any _ (hTp _)))
        | (go_at_call 19; exact kp_call (m1 _))
        | (go_at_call 21; exact kp_call (m2 _))
        | (go_at_call 22; exact kp_call (m3 _))
        | (go_at_call_of 20 (Value.int IntKind.i64 0); exact kp_call (n1 _))
        | (go_at_call_of 20 (Value.int IntKind.i64 1); exact kp_call (n2 _))
        | (go_at_call_of 20 (Value.int IntKind.i64 2); exact kp_call (n3 _))
        | (go_at_call 23; exact kp_call (m4 _))
        | (go_at_call 24; exact kp_call (m5 _))); go_big_quiet_on))
  refine wpQuiet_nil ?_
  rintro w5 ⟨p, rfl⟩
  go_wp2
  go_ret
  exact ⟨rfl, K3.trans (kpw_kp w3 p)⟩
theorem walk (w : World) (hT : Tab w) (f0 : Nat → Bool) (f1 : Nat → Bool)  :
    Calls Tryd.prog 4 #[SV f0, SV f1] w fun e w' => e = .returned (.bool true) ∧ Kp w w' := by
  exact walkN f0 f1 w hT

set_option maxRecDepth 100000 in
theorem lifted (os : Os) (started : os.Started) (H : Type) (enc : TypeId × Value → H) :
    ReturnsInHanded {} Tryd.checked os 4 .any (fun w args => (Rows.marksBothSpec.pre enc Tryd.prog Tryd.f4 [] false w args ∧ laidMetH Tryd.prog lz w) ∧ sizedMet enc Tryd.prog Tryd.f4 (OpenSpec.ofChange Rows.marksBothSpec) false w args)
      (Rows.marksBothSpec.post enc Tryd.prog Tryd.f4 false true false false) := by
  refine returnsInHanded_of_change_and (C := Tryd.checked) (X := fun w _ => laidMetH Tryd.prog lz w) (fun _ _ _ hh h => h.of_heap hh) own started (by kernel_rfl) Tryd.func4
    (ChangeSpec.witness_shaped (enc := enc) (C := Tryd.checked) (os := os) (X := fun w _ => laidMetH Tryd.prog lz w) false (World.doorLaid Tryd.prog 400 os) #[.agg #[.int .u64 0, .int .u64 0, .int .u64 0, .int .u64 0], .agg #[.int .u64 0, .int .u64 0, .int .u64 0, .int .u64 0]] 8 rfl (World.shaped_of_RefB (by kernel_rfl) (by kernel_rfl)) (by kernel_rfl) (by kernel_rfl) (by kernel_rfl) (door_met os _)) ?_
  intro W base args ds gs before hval0 hW hcnd _ hL _
  have hval : ∀ (j : Nat) t v, Tryd.f4.params[j]? = some t → args[j]? = some v → Value.okWide Tryd.prog W .any base t v := hval0
  have hW' := hW
  have hlt := hW.lt
  obtain ⟨p, q, hA0, hV, rfl, hfz, hnd⟩ := hW
  have hA : DataW.TrodAll enc Tryd.prog W 0 (fun _ => true) true Tryd.f4.params.toList args.toList ds p := hA0
  have hAk := hA
  rw [Tryd.params4] at hA hval
  obtain ⟨v0, vs0, d0, ds0, p0, q0, hargs, rfl, rfl, h0, r0⟩ := trodAll_cons hA
  obtain ⟨v1, vs1, d1, ds1, p1, q1, rfl, rfl, rfl, h1, r1⟩ := trodAll_cons r0
  obtain ⟨rfl, rfl, rfl⟩ := trodAll_nil r1
  obtain rfl : args = #[v0, v1] := by cases args; simp_all
  obtain ⟨rfl, rfl⟩ := trodVars_none hV
  obtain ⟨a0, b0, c0, e0, rfl, w0, x0, y0, z0⟩ := open_set4 Tryd.underlying24 Tryd.underlying23 cellsU cellsV (hval 0 24 v0 rfl rfl) h0
  obtain ⟨f0, hf0⟩ := set_value a0 b0 c0 e0 w0 x0 y0 z0
  obtain ⟨a1, b1, c1, e1, rfl, w1, x1, y1, z1⟩ := open_set4 Tryd.underlying24 Tryd.underlying23 cellsU cellsV (hval 1 24 v1 rfl rfl) h1
  obtain ⟨f1, hf1⟩ := set_value a1 b1 c1 e1 w1 x1 y1 z1
  clear hA0 hval0
  simp only [List.append_nil] at hW' hAk hlt
  have hwk := walk W (of_laid hL) f0 f1 
  rw [← hf0] at hwk
  rw [← hf1] at hwk
  refine hwk.mono fun e W' ⟨he, hg⟩ => ?_
  subst he
  exact ⟨_, rfl, post_kp (pv := []) hW' (fun _ _ _ => (trodAll_cons_mk (shut_bool Tryd.underlying4 _) trodAll_mk0)) (fun sp hsp => trodAll_stays laidOut (by rw [Tryd.params4]; exact of_decide_eq_true (by kernel_rfl)) hAk (fun x hx => Below.same hg (hlt x hx)) hsp) (fun _ _ => rfl) (by simp) hg⟩

theorem over : Rows.marksBothRow.holds Tryd.pinned (OpenSpec.ofChange Rows.marksBothSpec) :=
  OpenClaim.holds_of_wide 4 Tryd.f4 rfl rfl rfl rfl rfl rfl rfl ⟨rfl, rfl, rfl, rfl, rfl⟩ rfl rfl rfl rfl rfl (by kernel_rfl) Tryd.func4 (by kernel_rfl)
    (of_decide_eq_true (by kernel_rfl)) (by unfold Func.isWrapper; first | (rw [if_pos (by decide +kernel)]; kernel_rfl) | (rw [if_neg (by decide +kernel)]; exact ⟨rfl, rfl⟩))
    (fun os started H enc _ => lifted os started H enc)

theorem card : Claim7.holds Tryd.pinned (.plain (OpenSpec.ofChange Rows.marksBothSpec)) Rows.marksBothCard :=
  Claim7.holds_tied_plain_at .later [] [.data] true Rows.marksBothCard.stood.harness false
    over (fun _ h => by cases h) (by kernel_rfl) (fun _ h => by cases h) marksBoth_row_tie rfl ⟨rfl, rfl⟩ (by kernel_rfl) rfl
    (fun f fn hf hfn => by
      have e : some f = some 4 := hf.symm.trans (by kernel_rfl)
      obtain rfl := Option.some.inj e
      obtain rfl : fn = Tryd.f4 := (Option.some.inj (Tryd.func4.symm.trans hfn)).symm
      exact ⟨by kernel_rfl, fun j t ht => by
        rw [Tryd.params4] at ht
        have hm : t ∈ [24, 24] := by simpa using Array.mem_of_getElem? ht
        have hall : ([24, 24].all fun u => !Tryd.prog.wantsStandIn u) = true := by kernel_rfl
        exact (show Tryd.prog.wantsStandIn t = false by simpa using List.all_eq_true.1 hall t hm)⟩)
    (by kernel_rfl)

end Go.Proofs.YtekbhgcnobiplaaDoor.marksBoth
namespace Go.Proofs.YtekbhgcnobiplaaDoor
theorem marksBoth_holds : Rows.MarksBothCardSaid := marksBoth.card
end Go.Proofs.YtekbhgcnobiplaaDoor
