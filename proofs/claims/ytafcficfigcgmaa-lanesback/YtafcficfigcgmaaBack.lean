/-
  The law LanesBack is proved: for every word and every text a word is loaded back from its bytes, wherever they stand, and what was doubled is halved back, and what was halved is doubled back. No condition.
-/
import Derived.Test.YtafcficfigcgmaaRows
import Derived.Test.YtafcficfigcgmaaBackPlain
import Derived.WalkKit
import Derived.ProofKit
import Derived.OpenShut
import Derived.ShutString
namespace Go.Proofs.Ytafcficfigcgmaa.lanesBack
open Plain
open Go.ChangeShapes Go.WideShapes Go.ChangeAt Go.RowKit
open Go.ChangeMaps (open_string shut_string)
set_option linter.unusedVariables false      -- a walk need not use every 'w<i>' (that an integer argument fits its kind)

theorem own : ownKnob Try.prog.godebug = none := by kernel_rfl

theorem size_more (t : ByteArray) (x : Nat) (h : t.size ≤ 100) : (t ++ strOfNums (stL x) ++ { data := #[109, 111, 114, 101] }).size ≤ maxLen := by
  have e1 : (strOfNums (stL x)).size = 8 := rfl
  have e2 : (⟨#[109, 111, 114, 101]⟩ : ByteArray).size = 4 := rfl
  rw [ByteArray.size_append, ByteArray.size_append, e1, e2]; unfold maxLen; omega
set_option maxHeartbeats 1000000 in
theorem walkN (x : Nat) (hx : x < 18446744073709551616) (s : ByteArray) (hs : s.size ≤ maxLen) (w : World) :
    Calls Try.prog 6 #[.int .u64 x, .string s] w fun e w' => e = .returned (.bool true) ∧ Grown w w' := by
  unfold maxLen at hs
  have hz : (strOfNums (stL x)).size ≤ 8 := Nat.le_refl _
  have htw := tw_lt x
  have hhf := hf_lt x
  by_cases hh : 100 < s.size
  · have hm : min 100 s.size = 100 := by omega
    go_enter Try.func6, Try.ntmps6
    go_wp2_with fail
    refine (wakes_any _).mono ?_; rintro e w' ⟨rfl, rfl⟩
    go_wp2_with fail
    refine (store_any _ hx _).mono ?_; rintro e w' ⟨rfl, rfl⟩
    go_wp2_with fail
    have hsz : (s.extract 0 100).size = 100 := by rw [ByteArray.size_extract]; omega
    have hbk := back_eq (s.extract 0 100) ⟨#[109, 111, 114, 101]⟩ x hx
    rw [hsz] at hbk
    refine (load_any _ _ (size_more (s.extract 0 100) x (by omega)) (by omega) (by omega) _).mono ?_; rintro e w' ⟨rfl, rfl⟩
    rw [show (100 : Int) = ((100 : Nat) : Int) from rfl, hbk]
    clear hbk hsz
    go_wp2_with fail
    refine (twice_any _ hx _).mono ?_; rintro e w' ⟨rfl, rfl⟩
    go_wp2_with fail
    refine (half_any _ htw _).mono ?_; rintro e w' ⟨rfl, rfl⟩
    rw [hf_tw x hx]
    go_wp2_with fail
    refine (half_any _ hx _).mono ?_; rintro e w' ⟨rfl, rfl⟩
    go_wp2_with fail
    refine (twice_any _ hhf _).mono ?_; rintro e w' ⟨rfl, rfl⟩
    rw [tw_hf x hx]
    go_wp2
    go_ret
    exact ⟨rfl, ((Grown.refl _).alloc _ _).alloc _ _⟩
  · go_enter Try.func6, Try.ntmps6
    go_wp2_with fail
    refine (wakes_any _).mono ?_; rintro e w' ⟨rfl, rfl⟩
    go_wp2_with fail
    refine (store_any _ hx _).mono ?_; rintro e w' ⟨rfl, rfl⟩
    go_wp2_with fail
    refine (load_any _ _ (size_more s x (by omega)) (by omega) (by omega) _).mono ?_; rintro e w' ⟨rfl, rfl⟩
    rw [back_eq s _ x hx]
    go_wp2_with fail
    refine (twice_any _ hx _).mono ?_; rintro e w' ⟨rfl, rfl⟩
    go_wp2_with fail
    refine (half_any _ htw _).mono ?_; rintro e w' ⟨rfl, rfl⟩
    rw [hf_tw x hx]
    go_wp2_with fail
    refine (half_any _ hx _).mono ?_; rintro e w' ⟨rfl, rfl⟩
    go_wp2_with fail
    refine (twice_any _ hhf _).mono ?_; rintro e w' ⟨rfl, rfl⟩
    rw [tw_hf x hx]
    go_wp2
    go_ret
    exact ⟨rfl, ((Grown.refl _).alloc _ _).alloc _ _⟩
theorem walk (a0 : Int) (a1 : ByteArray) (w0 : (Lit.int .u64 a0).wf = true) (w1 : a1.size ≤ maxLen) (w : World) :
    Calls Try.prog 6 #[.int .u64 a0, .string a1] w fun e w' => e = .returned (.bool true) ∧ Grown w w' := by
  have hb := bounds_u64 w0
  obtain ⟨n, rfl⟩ : ∃ n : Nat, a0 = n := ⟨a0.toNat, by omega⟩
  exact walkN n (by omega) a1 w1 w

/-! ### THE ROW's STEP: WRITTEN OUT: LEAVE IT -/
set_option maxRecDepth 100000 in
theorem lifted (os : Os) (started : os.Started) (H : Type) (enc : TypeId × Value → H) :
    ReturnsInHanded {} Try.checked os 6 .any (Rows.lanesBackSpec.pre6 enc Try.prog Try.f6 Rows.lanesBackRow.domain false) (Rows.lanesBackSpec.post enc Try.prog Try.f6 false true false false) := by
  refine returnsInHanded_of_change (C := Try.checked) own started (by kernel_rfl) Try.func6
    (ChangeSpec.witness6 (enc := enc) (C := Try.checked) false ⟨#[], #[.int .u64 0, .string ByteArray.empty], []⟩ 8 (by kernel_rfl) (by kernel_rfl) (by kernel_rfl) (by kernel_rfl)) ?_
  intro W base args ds gs before hval0 hW hcnd _
  have hval : ∀ (j : Nat) t v, Try.f6.params[j]? = some t → args[j]? = some v → Value.okWide Try.prog W .any base t v := hval0
  have hW' := hW
  obtain ⟨p, q, hA0, hV, rfl, hfz, hnd⟩ := hW
  have hA : DataW.TrodAll enc Try.prog W 0 (fun _ => true) true Try.f6.params.toList args.toList ds p := hA0
  rw [Try.params6] at hA hval
  obtain ⟨v0, vs0, d0, ds0, p0, q0, hargs, rfl, rfl, h0, r0⟩ := trodAll_cons hA
  obtain ⟨v1, vs1, d1, ds1, p1, q1, rfl, rfl, rfl, h1, r1⟩ := trodAll_cons r0
  obtain ⟨rfl, rfl, rfl⟩ := trodAll_nil r1
  obtain rfl : args = #[v0, v1] := by cases args; simp_all
  obtain ⟨rfl, rfl⟩ := trodVars_none hV
  obtain ⟨a0, rfl, rfl, rfl, w0⟩ := open_int Try.underlying23 (hval 0 23 v0 rfl rfl) h0
  obtain ⟨a1, rfl, rfl, rfl, w1⟩ := open_string Try.underlying9 (hval 1 9 v1 rfl rfl) h1
  clear hA0 hval0
  simp only [List.append_nil] at hW'
  refine (walk a0 a1 w0 w1 W).mono fun e W' ⟨he, hg⟩ => ?_
  subst he
  exact ⟨_, rfl, post_of_same (pa := []) (pv := []) hW' (fun _ _ _ => (trodAll_cons_mk (shut_bool Try.underlying4 _) trodAll_mk0)) (fun sp _ => (trodAll_cons_mk (shut_int Try.underlying23 w0) (trodAll_cons_mk (shut_string Try.underlying9 w1) trodAll_mk0))) (fun _ _ => rfl) rfl
    (hg.frame _) hg.2.1 (ok_one (by kernel_rfl) rfl (okWide_bool_mk Try.underlying4 _))⟩

theorem over : Rows.lanesBackRow.holds Try.pinned (OpenSpec.ofChange Rows.lanesBackSpec) :=
  OpenClaim.holds_of_wide 6 Try.f6 rfl rfl rfl rfl rfl rfl rfl ⟨rfl, rfl, rfl, rfl, rfl⟩ rfl rfl rfl rfl rfl (by kernel_rfl) Try.func6 (by kernel_rfl)
    (of_decide_eq_true (by kernel_rfl)) (by unfold Func.isWrapper; first | (rw [if_pos (by decide +kernel)]; kernel_rfl) | (rw [if_neg (by decide +kernel)]; exact ⟨rfl, rfl⟩))
    (fun os started H enc _ => lifted os started H enc)

end Go.Proofs.Ytafcficfigcgmaa.lanesBack
namespace Go.Proofs.Ytafcficfigcgmaa
theorem lanesBack_holds : Rows.LanesBackSaid := lanesBack.over
end Go.Proofs.Ytafcficfigcgmaa
