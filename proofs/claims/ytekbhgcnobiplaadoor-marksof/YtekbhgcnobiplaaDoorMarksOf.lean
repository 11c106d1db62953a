/-
  For every list of numbers, every set of four words and every number the law function MarksOf returns true (Go: trunnionlaw07.MarksOf). Condition: the library table math/bits.deBruijn64tab reads as its text lays it (the card ties it).
-/
import Derived.Test.YtekbhgcnobiplaaDoorRows
import Derived.Test.YtekbhgcnobiplaaDoorCards
import Derived.Test.YtekbhgcnobiplaaDoorTie
import Derived.Test.YtekbhgcnobiplaaDoorMkDoor
import Derived.Test.YtekbhgcnobiplaaDoorMkDoor
import Derived.Test.YtekbhgcnobiplaaDoorMkRef3
import Derived.Test.YtekbhgcnobiplaaDoorBufCls
import Derived.WalkKit
import Derived.ProofKit
import Derived.OpenShut
import Derived.ShutString
import Derived.LaidMore
import Derived.SevenTiedAt
import Derived.Stop.Joined
import Derived.RegionTactic
import Derived.BigRegion
import Derived.BigQuiet
import Derived.Deep.RegionWith
import Derived.Deep.DeepCutAuto
namespace Go.Proofs.YtekbhgcnobiplaaDoor.marksOf
open Go.ChangeShapes Go.WideShapes Go.ChangeAt Go.RowKit
open Go.ChangeMaps (open_string shut_string)
open Go.Proofs.YtekbhgcnobiplaaDoor Plain Go.BigFrame
set_option linter.unusedVariables false

theorem own : ownKnob Tryd.prog.godebug = none := by kernel_rfl
theorem laidOut : laidOutB Tryd.prog = true := by kernel_rfl
theorem cellsI : Tryd.prog.cellsOf 3 = 1 := by kernel_rfl
theorem cellsU : Tryd.prog.cellsOf 23 = 1 := by kernel_rfl
theorem cellsV : Tryd.prog.cellsOf 24 = 4 := by kernel_rfl
theorem eq_self (f : Nat → Bool) (w : World) : (Op.equalIn 10000 25 (SV f) (SV f)).run Tryd.prog w = .ok true w := by
  rw [eqS, eqB_of (fun _ _ => rfl)]
theorem mask8 (n : Int) : bits .and .i64 n 255 = n % 256 := by
  have h : (BitVec.ofInt 64 255).toNat = 2 ^ 8 - 1 := by decide
  have key : (BitVec.ofInt 64 n &&& BitVec.ofInt 64 255).toNat = (n % ((2 ^ 64 : Nat) : Int)).toNat % 2 ^ 8 := by
    rw [BitVec.toNat_and, BitVec.toNat_ofInt, h, Nat.and_two_pow_sub_one_eq_mod]
  show IntKind.i64.wrap ((BitVec.ofInt 64 n &&& BitVec.ofInt 64 255).toNat : Nat) = n % 256
  rw [key, IntKind.wrap_i64]
  omega
theorem rhas_any (f : Nat → Bool) (i : Int) (w : World) : Calls Tryd.prog 11 #[SV f, .int .i64 i] w fun e w' => e = .returned (.bool (hasB f i)) ∧ Kp w w' := by
  unfold hasB
  by_cases h : 0 ≤ i ∧ i < 256
  · obtain ⟨n, rfl⟩ : ∃ n : Nat, i = n := ⟨i.toNat, by omega⟩
    rw [decide_eq_true h, Bool.true_and, show ((n : Nat) : Int).toNat = n by omega]
    exact rhas_in f n (by omega) w
  · rw [decide_eq_false h, Bool.false_and]
    exact rhas_out f i h w
theorem rwith_any (f : Nat → Bool) (i : Int) (w : World) : Calls Tryd.prog 13 #[SV f, .int .i64 i, .bool true] w fun e w' => e = .returned (SV (orF f (oneF i))) ∧ Kp w w' := by
  have h := rchange_any f i true w
  rw [SV_congr (fun j _ => ch_with f i j)] at h
  exact h
theorem rwithout_any (f : Nat → Bool) (i : Int) (w : World) : Calls Tryd.prog 13 #[SV f, .int .i64 i, .bool false] w fun e w' => e = .returned (SV (lessF f (oneF i))) ∧ Kp w w' := by
  have h := rchange_any f i false w
  rw [SV_congr (fun j _ => ch_without f i j)] at h
  exact h
set_option maxRecDepth 100000 in
set_option maxHeartbeats 8000000 in
theorem walkN (a : Option Addr) (cap : Nat) (l : List Int) (m : Nat) (hm : min (l.length : Int) 300 = (m : Int)) (hcap : l.length ≤ cap) (hmx : cap ≤ 9223372036854775807) (f : Nat → Bool) (i : Int) (hi : i ≤ 9223372036854775807) (w : World) (hI : IntsIn w (.slice a m cap) (l.take m)) (hT : Tab w) :
    Calls Tryd.prog 3 #[.slice a l.length cap, SV f, .int .i64 i] w fun e w' => e = .returned (.bool true) ∧ Kp w w' := by
  obtain ⟨n, hn⟩ : ∃ n, n = l.length := ⟨_, rfl⟩
  rw [← hn] at hm hcap ⊢
  have hmn : m ≤ n := by omega
  have hk := mask8 i
  obtain ⟨k2, hk2⟩ : ∃ k2, bits .and .i64 i 255 = k2 := ⟨_, rfl⟩
  have hk3 : k2 ≤ 9223372036854775807 := by rw [← hk2, hk]; omega
  clear hk hn
  obtain ⟨lt, hlt⟩ : ∃ lt, lt = l.take m := ⟨_, rfl⟩
  rw [← hlt] at hI
  clear hlt
  obtain ⟨W0, hW0⟩ : ∃ W0, W0 = (w.alloc (.cells (w4 (wd f)) 24)).alloc (.cells #[.int .i64 i, .int .i64 k2] 3) := ⟨_, rfl⟩
  have k0 : Kp w W0 := by rw [hW0]; exact ((Kp.refl w).alloc _).alloc _
  have aF : A4 W0 w.heap.size (wd f) := by rw [hW0]; exact (A4.new w _ _).alloc _
  have cs : ∀ j, j < 2 → W0.cell? ⟨w.heap.size + 1, j, none⟩ = some (.int .i64 (if j = 0 then i else k2)) := fun j hj => by
    rw [hW0]
    have h : j = 0 ∨ j = 1 := by omega
    rcases h with rfl | rfl
    · rw [if_pos rfl, World.cell?_alloc_at _ _ _ _ (by simp)]; rfl
    · rw [if_neg (by omega), World.cell?_alloc_at _ _ _ _ (by simp)]; rfl
  have HW : Hid (W0 = (w.alloc (.cells (w4 (wd f)) 24)).alloc (.cells #[.int .i64 i, .int .i64 k2] 3)) := hW0
  clear hW0
  unfold SV
  go_enter Tryd.func3, Tryd.ntmps3
  go_wp2
  rw [show (w.alloc (.cells #[.int .u64 ((wd f 0 : Nat) : Int), .int .u64 ((wd f 1 : Nat) : Int), .int .u64 ((wd f 2 : Nat) : Int), .int .u64 ((wd f 3 : Nat) : Int)] 24)).alloc (.cells #[.int .i64 i, .int .i64 k2] 3) = W0 from HW.out.symm]
  clear HW hk2
  go_loopw [19] (fun ix wr => ∃ j : Nat, j ≤ 2 ∧ ix = .int .i64 j ∧ Kp W0 wr) (fun ix _ => 2 - (intOf ix).toNat)
  case atStart => exact ⟨0, by omega, rfl, Kp.refl W0⟩
  case round =>
    obtain ⟨j, hj, rfl, hK⟩ := hrel
    by_cases hlt : j < 2
    · have cx := hK.held (cs j hlt)
      obtain ⟨x, hx⟩ : ∃ x : Int, x = if j = 0 then i else k2 := ⟨_, rfl⟩
      have hx2 : x ≤ 9223372036854775807 := by rw [hx]; split <;> omega
      rw [← hx] at cx
      have q := (aF.kept hK).cells
      obtain ⟨p0, p1, p2, p3⟩ := q
      have q0 := kpw_cell p0
      have q1 := kpw_cell p1
      have q2 := kpw_cell p2
      have q3 := kpw_cell p3
      clear hx p0 p1 p2 p3 cs aF hI
      have e1 := eq_self (upF x)
      have e2 := eq_self (orF f (oneF x))
      have e3 := eq_self (lessF f (oneF x))
      have m1 := upto_any x hx2
      have m2 := rupto_any x
      have m3 := has_any f x
      have m4 := rhas_any f x
      have m5 := with_any f x
      have m6 := rwith_any f x
      have m7 := without_any f x
      have m8 := rwithout_any f x
      obtain ⟨hb, hbe⟩ : ∃ hb, hb = hasB f x := ⟨_, rfl⟩
      rw [← hbe] at m3 m4
      clear hbe
      unfold SV at e1 e2 e3 m1 m2 m3 m4 m5 m6 m7 m8
      go_wp2_with fail
      refine wp_region_kp (by kernel_rfl) (by kernel_rfl) ?_
      repeat (first
        | go_big_quiet_skip
        | (go_big_quiet_want; go_big_quiet_op; go_big_quiet_on)
        | (go_big_quiet_want; go_big_quiet_op; apply Exists.intro; refine ⟨fun p => ?_, ?_⟩; (focus
            first
            | (go_at_call 8; exact kp_call (m1 _))
            | (go_at_call 9; exact kp_call (m2 _))
            | (go_at_call 10; exact kp_call (m3 _))
            | (go_at_call 11; exact kp_call (m4 _))
            | (go_at_call 12; exact kp_call (m5 _))
            | (go_at_call 14; exact kp_call (m7 _))
            | (go_at_call_of 13 (Value.bool true); exact kp_call (m6 _))
            | (go_at_call_of 13 (Value.bool false); exact kp_call (m8 _))); go_big_quiet_on))
      refine wpQuiet_nil ?_
      rintro w5 ⟨p, rfl⟩
      have HK : Hid (Kp W0 (kpw wr p)) := hK.trans (kpw_kp wr p)
      clear q0 q1 q2 q3 e1 e2 e3 m1 m2 m3 m4 m5 m6 m7 m8 hK cx
      go_wp2
      go_roundw
      case rel => exact ⟨j + 1, by omega, by go_num, HK.out⟩
      case measure => simp [intOf]; omega
    · obtain rfl : j = 2 := by omega
      have K1 := k0.trans hK
      have hW := wakes_any wr (hT.kp K1)
      have hO := fun W (h : Kp wr W) => of_any _ _ W (hI.kept (K1.trans h))
      have hR := fun W (h : Kp wr W) => rof_any _ _ W (hI.kept (K1.trans h))
      have e1 := eq_self (inL lt)
      unfold SV at hO hR e1
      clear cs aF hI k0 hK
      go_wp2_with fail
      refine hW.mono ?_; rintro e w2 ⟨rfl, k2'⟩
      clear hW
      go_wp2_with fail
      refine (hO _ k2').mono ?_; rintro e w3 ⟨rfl, k3⟩
      go_wp2_with fail
      refine (hR _ (k2'.trans k3)).mono ?_; rintro e w4 ⟨rfl, k4⟩
      go_wp2
      go_ret
      exact ⟨rfl, ((K1.trans k2').trans k3).trans k4⟩
theorem walk (w : World) (hT : Tab w) (a0 : Value) (l0 : List Int) (f1 : Nat → Bool) (a2 : Int) (w0 : IntsIn w a0 l0) (w2 : (Lit.int .i64 a2).wf = true) :
    Calls Tryd.prog 3 #[a0, SV f1, .int .i64 a2] w fun e w' => e = .returned (.bool true) ∧ Kp w w' := by
  have hb := bounds_i64 w2
  have key : ∀ (a : Option Addr) (cap : Nat), l0.length ≤ cap → cap ≤ 9223372036854775807 → IntsIn w (.slice a (min l0.length 300) cap) (l0.take (min l0.length 300)) → Calls Tryd.prog 3 #[.slice a l0.length cap, SV f1, .int .i64 a2] w fun e w' => e = .returned (.bool true) ∧ Kp w w' := fun a cap h1 h2 h3 => walkN a cap l0 (min l0.length 300) (by omega) h1 h2 f1 a2 (by omega) w h3 hT
  cases w0 with
  | empty a cap h => exact key a cap (by simp) (by unfold maxLen at h; omega) (.empty a cap h)
  | some b off cap l h0 h1 h2 hc =>
    refine key _ cap h1 (by unfold maxLen at h2; omega) ?_
    have hl : (l0.take (min l0.length 300)).length = min l0.length 300 := by rw [List.length_take]; omega
    have := IntsIn.some (w := w) b off cap (l0.take (min l0.length 300)) (by omega) (by omega) h2 (fun i hi => by
      rw [hl] at hi
      rw [hc i (by omega), List.getD_eq_getElem?_getD, List.getD_eq_getElem?_getD, List.getElem?_take_of_lt hi])
    rw [hl] at this
    exact this

set_option maxRecDepth 100000 in
theorem lifted (os : Os) (started : os.Started) (H : Type) (enc : TypeId × Value → H) :
    ReturnsInHanded {} Tryd.checked os 3 .any (fun w args => (Rows.marksOfSpec.pre enc Tryd.prog Tryd.f3 [] false w args ∧ laidMetH Tryd.prog lz w) ∧ sizedMet enc Tryd.prog Tryd.f3 (OpenSpec.ofChange Rows.marksOfSpec) false w args)
      (Rows.marksOfSpec.post enc Tryd.prog Tryd.f3 false true false false) := by
  refine returnsInHanded_of_change_and (C := Tryd.checked) (X := fun w _ => laidMetH Tryd.prog lz w) (fun _ _ _ hh h => h.of_heap hh) own started (by kernel_rfl) Tryd.func3
    (ChangeSpec.witness_shaped (enc := enc) (C := Tryd.checked) (os := os) (X := fun w _ => laidMetH Tryd.prog lz w) false (World.doorLaid Tryd.prog 400 os) #[.slice none 0 0, .agg #[.int .u64 0, .int .u64 0, .int .u64 0, .int .u64 0], .int .i64 0] 8 rfl (World.shaped_of_RefB (by kernel_rfl) (by kernel_rfl)) (by kernel_rfl) (by kernel_rfl) (by kernel_rfl) (door_met os _)) ?_
  intro W base args ds gs before hval0 hW hcnd _ hL _
  have hval : ∀ (j : Nat) t v, Tryd.f3.params[j]? = some t → args[j]? = some v → Value.okWide Tryd.prog W .any base t v := hval0
  have hW' := hW
  have hlt := hW.lt
  obtain ⟨p, q, hA0, hV, rfl, hfz, hnd⟩ := hW
  have hA : DataW.TrodAll enc Tryd.prog W 0 (fun _ => true) true Tryd.f3.params.toList args.toList ds p := hA0
  have hAk := hA
  rw [Tryd.params3] at hA hval
  obtain ⟨v0, vs0, d0, ds0, p0, q0, hargs, rfl, rfl, h0, r0⟩ := trodAll_cons hA
  obtain ⟨v1, vs1, d1, ds1, p1, q1, rfl, rfl, rfl, h1, r1⟩ := trodAll_cons r0
  obtain ⟨v2, vs2, d2, ds2, p2, q2, rfl, rfl, rfl, h2, r2⟩ := trodAll_cons r1
  obtain ⟨rfl, rfl, rfl⟩ := trodAll_nil r2
  obtain rfl : args = #[v0, v1, v2] := by cases args; simp_all
  obtain ⟨rfl, rfl⟩ := trodVars_none hV
  obtain ⟨l0, w0⟩ := open_intsL Tryd.underlying22 Tryd.underlying3 cellsI (hval 0 22 v0 rfl rfl) h0
  obtain ⟨a1, b1, c1, e1, rfl, w1, x1, y1, z1⟩ := open_set4 Tryd.underlying24 Tryd.underlying23 cellsU cellsV (hval 1 24 v1 rfl rfl) h1
  obtain ⟨f1, hf1⟩ := set_value a1 b1 c1 e1 w1 x1 y1 z1
  obtain ⟨a2, rfl, rfl, rfl, w2⟩ := open_int Tryd.underlying3 (hval 2 3 v2 rfl rfl) h2
  clear hA0 hval0
  simp only [List.append_nil] at hW' hAk hlt
  have hwk := walk W (of_laid hL) v0 l0 f1 a2 w0 w2
  rw [← hf1] at hwk
  refine hwk.mono fun e W' ⟨he, hg⟩ => ?_
  subst he
  exact ⟨_, rfl, post_kp (pv := []) hW' (fun _ _ _ => (trodAll_cons_mk (shut_bool Tryd.underlying4 _) trodAll_mk0)) (fun sp hsp => trodAll_stays laidOut (by rw [Tryd.params3]; exact of_decide_eq_true (by kernel_rfl)) hAk (fun x hx => Below.same hg (hlt x hx)) hsp) (fun _ _ => rfl) (by simp) hg⟩

theorem over : Rows.marksOfRow.holds Tryd.pinned (OpenSpec.ofChange Rows.marksOfSpec) :=
  OpenClaim.holds_of_wide 3 Tryd.f3 rfl rfl rfl rfl rfl rfl rfl ⟨rfl, rfl, rfl, rfl, rfl⟩ rfl rfl rfl rfl rfl (by kernel_rfl) Tryd.func3 (by kernel_rfl)
    (of_decide_eq_true (by kernel_rfl)) (by unfold Func.isWrapper; first | (rw [if_pos (by decide +kernel)]; kernel_rfl) | (rw [if_neg (by decide +kernel)]; exact ⟨rfl, rfl⟩))
    (fun os started H enc _ => lifted os started H enc)

theorem card : Claim7.holds Tryd.pinned (.plain (OpenSpec.ofChange Rows.marksOfSpec)) Rows.marksOfCard :=
  Claim7.holds_tied_plain_at .later [] [.data] true Rows.marksOfCard.stood.harness false
    over (fun _ h => by cases h) (by kernel_rfl) (fun _ h => by cases h) marksOf_row_tie rfl ⟨rfl, rfl⟩ (by kernel_rfl) rfl
    (fun f fn hf hfn => by
      have e : some f = some 3 := hf.symm.trans (by kernel_rfl)
      obtain rfl := Option.some.inj e
      obtain rfl : fn = Tryd.f3 := (Option.some.inj (Tryd.func3.symm.trans hfn)).symm
      exact ⟨by kernel_rfl, fun j t ht => by
        rw [Tryd.params3] at ht
        have hm : t ∈ [22, 24, 3] := by simpa using Array.mem_of_getElem? ht
        have hall : ([22, 24, 3].all fun u => !Tryd.prog.wantsStandIn u) = true := by kernel_rfl
        exact (show Tryd.prog.wantsStandIn t = false by simpa using List.all_eq_true.1 hall t hm)⟩)
    (by kernel_rfl)

end Go.Proofs.YtekbhgcnobiplaaDoor.marksOf
namespace Go.Proofs.YtekbhgcnobiplaaDoor
theorem marksOf_holds : Rows.MarksOfCardSaid := marksOf.card
end Go.Proofs.YtekbhgcnobiplaaDoor
