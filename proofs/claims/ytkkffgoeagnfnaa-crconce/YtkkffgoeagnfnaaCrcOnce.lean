/-
  For every slice of bytes and every text the law function CrcOnce returns true (Go: trunnionlaw06.CrcOnce). No condition.
-/
import Derived.Test.YtkkffgoeagnfnaaRows
import Derived.Test.YtkkffgoeagnfnaaBufArgs
import Derived.Test.YtkkffgoeagnfnaaCrcWakes
import Derived.WalkKit
import Derived.ProofKit
import Derived.OpenShut
import Derived.ShutString
namespace Go.Proofs.Ytkkffgoeagnfnaa.crcOnce
open Go.ChangeShapes Go.WideShapes Go.ChangeAt Go.RowKit
open Go.ChangeMaps (open_string shut_string)
open Go.Proofs.Ytkkffgoeagnfnaa Plain
set_option linter.unusedVariables false

theorem own : ownKnob Try.prog.godebug = none := by kernel_rfl
theorem laidOut : laidOutB Try.prog = true := by kernel_rfl
theorem cellsB : Try.prog.cellsOf 5 = 1 := by kernel_rfl
/-- made behind the first round, not ahead of it. -/
def St (w : World) (F j : Nat) : Prop := (j = 0 → Fresh w F) ∧ (j ≠ 0 → Ready w F)
def mdJ (j : Nat) : Int := if j = 0 then 0 else 1
theorem St.or {w : World} {F j : Nat} (h : St w F j) : Fresh w F ∨ Ready w F := by
  by_cases h0 : j = 0
  · exact Or.inl (h.1 h0)
  · exact Or.inr (h.2 h0)
theorem St.on {w : World} {F : Nat} (j : Nat) (h : Ready w F) : St w F (j + 1) := ⟨fun h0 => absurd h0 (by omega), fun _ => h⟩
theorem made_st (w : World) (F j : Nat) (h : St w F j) :
    Calls Try.prog 18 #[.pointer (some ⟨F, 0, none⟩)] w fun e w' => e = .returned (.int .i64 (mdJ j)) ∧ w' = w := by
  unfold mdJ
  by_cases h0 : j = 0
  · rw [if_pos h0]; exact made_any F 0 0 0 no0 no0 w (h.1 h0)
  · rw [if_neg h0]; exact made_any F 1 0 1 tb8 mv8 w (h.2 h0)
theorem same_md (j : Nat) : ∃ B : Bool, (mdJ j == 0) = B ∧ ((j : Int) == 0) = B := by
  unfold mdJ
  by_cases h0 : j = 0
  · subst h0; exact ⟨true, rfl, rfl⟩
  · exact ⟨false, by rw [if_neg h0]; rfl, by simp; omega⟩
set_option maxRecDepth 100000 in
set_option maxHeartbeats 4000000 in
theorem once_empty (a : Option Addr) (cap : Nat) (s : ByteArray) (hs : s.size ≤ 9223372036854775807) (w : World) :
    Calls Try.prog 7 #[.slice a 0 cap, .string s] w fun e w' => e = .returned (.bool true) ∧ Kp w w' := by
  have hm : min (s.size : Int) 50 = ((min s.size 50 : Nat) : Int) := by omega
  have hms : min s.size 50 ≤ s.size := by omega
  have hmn : min s.size 50 ≤ 50 := by omega
  generalize min s.size 50 = m at *
  have ht : (s.extract 0 m).size = m := by rw [ByteArray.size_extract]; omega
  go_enter Try.func7, Try.ntmps7
  go_wp2_with fail
  refine (wakes_any w).mono ?_; rintro e w1 ⟨rfl, R1, P1⟩
  have hF9 : Hid (w.heap.size ≤ w1.heap.size) := P1.size
  go_wp2_with fail
  refine (new_any w1).mono ?_; rintro e w2 ⟨rfl, hw2⟩
  have F2 : St w2 w1.heap.size 0 := by rw [hw2]; exact ⟨fun _ => new_table w1 _, fun h => absurd rfl h⟩
  have P2 : Kp w w2 := by rw [hw2]; exact P1.alloc _
  clear hw2 R1 P1
  generalize w1.heap.size = F at *
  rcases a with _ | a
  · go_wp2_with fail
    go_loopw [27] (fun i wr => i = .int .i64 0 ∧ Kp w wr) (fun _ _ => 0)
    case atStart => exact ⟨rfl, P2⟩
    case round =>
      obtain ⟨rfl, PB⟩ := hrel
      go_wp2_with fail
      refine (nsum _ _).mono ?_; rintro e w' ⟨rfl, rfl⟩
      go_wp2_with fail
      refine (nmore _ _ _).mono ?_; rintro e w' ⟨rfl, rfl⟩
      go_wp2_with fail
      refine (njoin _ _ _ _).mono ?_; rintro e w' ⟨rfl, rfl⟩
      go_wp2_with fail
      refine (made_nil _).mono ?_; rintro e w' ⟨rfl, rfl⟩
      go_wp2
      go_ret
      exact ⟨rfl, PB⟩
  · go_wp2_with fail
    go_loopw [27] (fun i wr => i = .int .i64 0 ∧ Kp w wr) (fun _ _ => 0)
    case atStart => exact ⟨rfl, P2⟩
    case round =>
      obtain ⟨rfl, PB⟩ := hrel
      go_wp2_with fail
      refine (nsum _ _).mono ?_; rintro e w' ⟨rfl, rfl⟩
      go_wp2_with fail
      refine (nmore _ _ _).mono ?_; rintro e w' ⟨rfl, rfl⟩
      go_wp2_with fail
      refine (njoin _ _ _ _).mono ?_; rintro e w' ⟨rfl, rfl⟩
      go_wp2_with fail
      refine (made_nil _).mono ?_; rintro e w' ⟨rfl, rfl⟩
      go_wp2
      go_ret
      exact ⟨rfl, PB⟩
set_option maxRecDepth 100000 in
set_option maxHeartbeats 4000000 in
theorem once_some (b off n cap : Nat) (zs : List Int) (s : ByteArray) (hs : s.size ≤ 9223372036854775807) (w : World) (hb : b < w.heap.size) (hn : n ≤ cap) (hcap : cap ≤ 9223372036854775807) (hc : ∀ i, i < n → w.cell? ⟨b, off + i, none⟩ = some (.int .u8 (zs.getD i 0))) (hz : ∀ i, 0 ≤ zs.getD i 0 ∧ zs.getD i 0 < 256) :
    Calls Try.prog 7 #[.slice (some ⟨b, off, none⟩) n cap, .string s] w fun e w' => e = .returned (.bool true) ∧ Kp w w' := by
  have hm : min (s.size : Int) 50 = ((min s.size 50 : Nat) : Int) := by omega
  have hms : min s.size 50 ≤ s.size := by omega
  have hmn : min s.size 50 ≤ 50 := by omega
  generalize min s.size 50 = m at *
  have ht : (s.extract 0 m).size = m := by rw [ByteArray.size_extract]; omega
  have hq : min (n : Int) 30 = ((min n 30 : Nat) : Int) := by omega
  have hqn : min n 30 ≤ n := by omega
  generalize min n 30 = q at *
  go_enter Try.func7, Try.ntmps7
  go_wp2_with fail
  refine (wakes_any w).mono ?_; rintro e w1 ⟨rfl, R1, P1⟩
  have hF9 : Hid (w.heap.size ≤ w1.heap.size) := P1.size
  go_wp2_with fail
  refine (new_any w1).mono ?_; rintro e w2 ⟨rfl, hw2⟩
  have F2 : St w2 w1.heap.size 0 := by rw [hw2]; exact ⟨fun _ => new_table w1 _, fun h => absurd rfl h⟩
  have P2 : Kp w w2 := by rw [hw2]; exact P1.alloc _
  clear hw2 R1 P1
  generalize w1.heap.size = F at *
  go_wp2_with fail
  generalize s.extract 0 m = t at *
  have ht9 : t.size ≤ 9223372036854775807 := by omega
  go_loopw [27] (fun i wr => ∃ j : Nat, j ≤ q ∧ i = .int .i64 j ∧ St wr F j ∧ Kp w wr) (fun i _ => q - (intOf i).toNat)
  case atStart => exact ⟨0, by omega, rfl, F2, P2⟩
  case round =>
    clear F2 P2
    obtain ⟨j, hj, rfl, SB, PB⟩ := hrel
    by_cases hlt : j < q
    · have hcj : wr.cell? ⟨b, off + j, none⟩ = some (.int .u8 (zs.getD j 0)) := PB.held (hc j (by omega))
      have hzj := hz j
      clear hc hz
      generalize zs.getD j 0 = z0 at *
      obtain ⟨z, rfl⟩ : ∃ z : Nat, z0 = z := ⟨z0.toNat, by omega⟩
      have hz9 : z < 256 := by omega
      obtain ⟨B, b1, b2⟩ := same_md j
      go_wp2_with fail
      refine (made_st _ F j SB).mono ?_; rintro e w' ⟨rfl, rfl⟩
      have h3 : z % 3 = 0 ∨ z % 3 = 1 ∨ z % 3 = 2 := by omega
      rcases h3 with h3 | h3 | h3
      · have e3 := show (z : Int) % 3 = 0 by omega
        go_wp2_with fail
        refine (sum_any F t ht9 _ SB.or).mono ?_; rintro e w4 ⟨rfl, R4, T4⟩
        have P4 : Kp w w4 := PB.trd T4.trd hF9.out
        clear T4
        go_wp2_with fail
        refine (made_any F 1 0 1 tb8 mv8 _ R4).mono ?_; rintro e w' ⟨rfl, rfl⟩
        go_wp2
        go_roundw
        case rel => exact ⟨j + 1, by omega, by go_num, St.on j R4, P4⟩
        case measure => simp [intOf] <;> omega
      · have e3 := show (z : Int) % 3 = 1 by omega
        go_wp2_with fail
        refine (more_any F z (by omega) t ht9 _ SB.or).mono ?_; rintro e w4 ⟨rfl, R4, T4⟩
        have P4 : Kp w w4 := PB.trd T4.trd hF9.out
        clear T4
        go_wp2_with fail
        refine (made_any F 1 0 1 tb8 mv8 _ R4).mono ?_; rintro e w' ⟨rfl, rfl⟩
        go_wp2
        go_roundw
        case rel => exact ⟨j + 1, by omega, by go_num, St.on j R4, P4⟩
        case measure => simp [intOf] <;> omega
      · have e3 := show (z : Int) % 3 = 2 by omega
        go_wp2_with fail
        refine (join_any F 1 2 (by omega) (by omega) (z : Int) (by omega) _ SB.or).mono ?_; rintro e w4 ⟨rfl, R4, T4⟩
        have P4 : Kp w w4 := PB.trd T4.trd hF9.out
        clear T4
        go_wp2_with fail
        refine (made_any F 1 0 1 tb8 mv8 _ R4).mono ?_; rintro e w' ⟨rfl, rfl⟩
        go_wp2
        go_roundw
        case rel => exact ⟨j + 1, by omega, by go_num, St.on j R4, P4⟩
        case measure => simp [intOf] <;> omega
    · clear hc hz
      go_wp2_with fail
      refine (nsum _ _).mono ?_; rintro e w' ⟨rfl, rfl⟩
      go_wp2_with fail
      refine (nmore _ _ _).mono ?_; rintro e w' ⟨rfl, rfl⟩
      go_wp2_with fail
      refine (njoin _ _ _ _).mono ?_; rintro e w' ⟨rfl, rfl⟩
      go_wp2_with fail
      refine (made_nil _).mono ?_; rintro e w' ⟨rfl, rfl⟩
      go_wp2
      go_ret
      exact ⟨rfl, PB⟩
theorem walk (w : World) (a0 : Value) (a1 : ByteArray) (w0 : BytesIn w a0) (w1 : a1.size ≤ maxLen) :
    Calls Try.prog 7 #[a0, .string a1] w fun e w' => e = .returned (.bool true) ∧ Kp w w' := by
  have h9 : a1.size ≤ 9223372036854775807 := by unfold maxLen at w1; omega
  cases w0 with
  | empty a cap h => exact once_empty a cap a1 h9 w
  | some b off n cap zs hb h0 h3 h4 hc hz => exact once_some b off n cap zs a1 h9 w hb h3 (by unfold maxLen at h4; omega) hc hz

set_option maxRecDepth 100000 in
theorem lifted (os : Os) (started : os.Started) (H : Type) (enc : TypeId × Value → H) :
    ReturnsInHanded {} Try.checked os 7 .any (Rows.crcOnceSpec.pre6 enc Try.prog Try.f7 Rows.crcOnceRow.domain false) (Rows.crcOnceSpec.post enc Try.prog Try.f7 false true false false) := by
  refine returnsInHanded_of_change (C := Try.checked) own started (by kernel_rfl) Try.func7
    (ChangeSpec.witness6 (enc := enc) (C := Try.checked) false ⟨#[], #[.slice none 0 0, .string ByteArray.empty], []⟩ 8 (by kernel_rfl) (by kernel_rfl) (by kernel_rfl) (by kernel_rfl)) ?_
  intro W base args ds gs before hval0 hW hcnd _
  have hval : ∀ (j : Nat) t v, Try.f7.params[j]? = some t → args[j]? = some v → Value.okWide Try.prog W .any base t v := hval0
  have hW' := hW
  have hlt := hW.lt
  obtain ⟨p, q, hA0, hV, rfl, hfz, hnd⟩ := hW
  have hA : DataW.TrodAll enc Try.prog W 0 (fun _ => true) true Try.f7.params.toList args.toList ds p := hA0
  have hAk := hA
  rw [Try.params7] at hA hval
  obtain ⟨v0, vs0, d0, ds0, p0, q0, hargs, rfl, rfl, h0, r0⟩ := trodAll_cons hA
  obtain ⟨v1, vs1, d1, ds1, p1, q1, rfl, rfl, rfl, h1, r1⟩ := trodAll_cons r0
  obtain ⟨rfl, rfl, rfl⟩ := trodAll_nil r1
  obtain rfl : args = #[v0, v1] := by cases args; simp_all
  obtain ⟨rfl, rfl⟩ := trodVars_none hV
  have w0 := open_bytes Try.underlying33 Try.underlying5 cellsB (hval 0 33 v0 rfl rfl) h0
  obtain ⟨a1, rfl, rfl, rfl, w1⟩ := open_string Try.underlying9 (hval 1 9 v1 rfl rfl) h1
  clear hA0 hval0
  simp only [List.append_nil] at hW' hAk hlt
  refine (walk W v0 a1 w0 w1).mono fun e W' ⟨he, hg⟩ => ?_
  subst he
  exact ⟨_, rfl, post_kp (pv := []) hW' (fun _ _ _ => (trodAll_cons_mk (shut_bool Try.underlying4 _) trodAll_mk0)) (fun sp hsp => trodAll_stays laidOut (by rw [Try.params7]; exact of_decide_eq_true (by kernel_rfl)) hAk (fun x hx => Below.same hg (hlt x hx)) hsp) (fun _ _ => rfl) (by simp) hg⟩

theorem over : Rows.crcOnceRow.holds Try.pinned (OpenSpec.ofChange Rows.crcOnceSpec) :=
  OpenClaim.holds_of_wide 7 Try.f7 rfl rfl rfl rfl rfl rfl rfl ⟨rfl, rfl, rfl, rfl, rfl⟩ rfl rfl rfl rfl rfl (by kernel_rfl) Try.func7 (by kernel_rfl)
    (of_decide_eq_true (by kernel_rfl)) (by unfold Func.isWrapper; first | (rw [if_pos (by decide +kernel)]; kernel_rfl) | (rw [if_neg (by decide +kernel)]; exact ⟨rfl, rfl⟩))
    (fun os started H enc _ => lifted os started H enc)

end Go.Proofs.Ytkkffgoeagnfnaa.crcOnce
namespace Go.Proofs.Ytkkffgoeagnfnaa
theorem crcOnce_holds : Rows.CrcOnceSaid := crcOnce.over
end Go.Proofs.Ytkkffgoeagnfnaa
