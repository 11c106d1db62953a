/-
  The kinds' names: what the package's variable holds when the call begins, as the row lists it; contract of Kind's Name. Condition: that the variable reads as it is listed.
-/
import Derived.Test.YtffbachgbcefiaaDoorPsLaw
import Derived.Test.YtffbachgbcefiaaDoorRows
import Derived.ProofKit
import Derived.LaidMore
import Derived.OpenShut
import Derived.Stop.Joined
namespace Go.Proofs.YtffbachgbcefiaaDoor
open Go.ChangeShapes Go.WideShapes Go.ChangeAt Go.RowKit Plain
set_option linter.unusedVariables false
set_option linter.unusedSimpArgs false

def wnL : List ByteArray := [⟨#[102, 117, 108, 108]⟩, ⟨#[103, 114, 101, 97, 116]⟩, ⟨#[115, 109, 97, 108, 108]⟩, ⟨#[119, 104, 111, 108, 101]⟩]
def wnI (k : Int) : ByteArray := if 0 ≤ k ∧ k < 4 then wnL.getD k.toNat noS else noS
/-- the variable's cells. -/
def Wn (w : World) : Prop := ∀ j, j < 4 → w.cell? ⟨0, j, none⟩ = some (.string (wnL.getD j noS))
theorem Wn.kp {w w' : World} (h : Wn w) (k : Kp w w') : Wn w' := fun j hj => k.held (h j hj)
def plz : List (String × DataW Unit) := Rows.planWaysRow.laid
theorem pdoor_met (os : Os) (args : Array Value) : laidMetH Tryd.prog plz ((World.doorLaid Tryd.prog 400 os).forCall (fun _ _ => 0) ⟨#[], args, []⟩).memory :=
  laidMetH_of_parts3 (fuel := 8) (laidMet_of_run' 8 (by kernel_rfl) (by kernel_rfl)) (by kernel_rfl) (by kernel_rfl)
theorem pof_laid {W : World} (h : laidMetH Tryd.prog plz W) : Wn W := by
  rw [MakeChecks.laidMetH_plain _ _ _ (by kernel_rfl)] at h
  obtain ⟨ps, ⟨g0, t0, cs0, f0, p0, q0, hg0, ht0, hv0, hd0, _, _⟩, _, _⟩ := h
  have e0 : some g0 = some 0 := hg0.symm.trans (by kernel_rfl)
  obtain rfl := Option.some.inj e0
  have e1 : some t0 = some 76 := ht0.symm.trans (by kernel_rfl)
  obtain rfl := Option.some.inj e1
  obtain ⟨xs, m1, rfl, hx1, hlen, hn3, hel⟩ := DataW.trod_array Tryd.underlying76 hd0
  have c9 : Tryd.prog.cellsOf 9 = 1 := by kernel_rfl
  obtain ⟨hag, _⟩ := Prod.mk.inj hx1
  have hl : xs.map (·.1) = [.lit (.string [102, 117, 108, 108]), .lit (.string [103, 114, 101, 97, 116]), .lit (.string [115, 109, 97, 108, 108]), .lit (.string [119, 104, 111, 108, 101])] := (DataW.agg.inj hag).symm
  intro j hj
  have hj' := hel j hj
  rw [c9, Nat.mul_one, List.getElem?_eq_getElem (by omega)] at hj'
  obtain ⟨s, e2, e3, _⟩ := DataW.trod_string Tryd.underlying9 hj'
  have e4 : cs0.toList[j]? = some (.string s) := by
    have := congrArg (fun l => l[0]?) e2
    simpa using this
  have hc := World.var?_cell hg0 hv0 j
  rw [← Array.getElem?_toList, e4] at hc
  have e5 : (xs.map (·.1))[j]? = some (.lit (.string s.data.toList)) := by
    rw [List.getElem?_map, List.getElem?_eq_getElem (by omega)]
    simp [e3]
  rw [hl] at e5
  have e6 : s = wnL.getD j noS := by
    apply Go.WideShapes.bytes_inj
    have h : j = 0 ∨ j = 1 ∨ j = 2 ∨ j = 3 := by omega
    rcases h with rfl | rfl | rfl | rfl <;> (simp at e5; rw [← e5]; rfl)
  rw [← e6]
  exact hc
set_option maxHeartbeats 1000000 in
theorem wname_any (k : Int) (w : World) (h : Wn w) : Calls Tryd.prog 13 #[.int .i64 k] w fun e w' => e = .returned (.string (wnI k)) ∧ w' = w := by
  unfold wnI
  by_cases h1 : k < 0
  · rw [if_neg (by omega)]
    clear h
    go_enter Tryd.func13, Tryd.ntmps13
    go_wp2_with fail
    go_ret
    exact ⟨rfl, rfl⟩
  · by_cases h2 : k > 3
    · rw [if_neg (by omega)]
      clear h
      go_enter Tryd.func13, Tryd.ntmps13
      go_wp2_with fail
      go_ret
      exact ⟨rfl, rfl⟩
    · rw [if_pos (by omega)]
      obtain ⟨n, rfl⟩ : ∃ n : Nat, k = n := ⟨k.toNat, by omega⟩
      have hn : n < 4 := by omega
      have hc := h n hn
      rw [show ((n : Nat) : Int).toNat = n by omega]
      obtain ⟨s, hs⟩ : ∃ s, s = wnL.getD n noS := ⟨_, rfl⟩
      rw [← hs] at hc ⊢
      clear hs h
      go_enter Tryd.func13, Tryd.ntmps13
      go_wp2_with fail
      go_ret
      exact ⟨rfl, rfl⟩

end Go.Proofs.YtffbachgbcefiaaDoor
