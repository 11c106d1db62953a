/-
  The kinds' names: what the package's variable holds when the call begins, as the row lists it; contracts of Kind's Name and known, of New, Fix and Done on the laws' first example. Conditions: that the variable reads as it is listed.
-/
import Derived.Test.YtbcmgogfpboibaaGreatDoorRepFix
import Derived.Test.YtbcmgogfpboibaaGreatDoorRows
import Derived.ProofKit
import Derived.LaidMore
import Derived.OpenShut
import Derived.Stop.Joined
namespace Go.Proofs.YtbcmgogfpboibaaGreatDoor
open Go.ChangeShapes Go.WideShapes Go.ChangeAt Go.RowKit Plain
set_option linter.unusedVariables false

def nmL : List ByteArray := [⟨#[119, 104, 111, 108, 101]⟩, ⟨#[100, 97, 116, 97]⟩, ⟨#[112]⟩, ⟨#[113]⟩, ⟨#[100, 97, 116, 97, 43, 112]⟩, ⟨#[100, 97, 116, 97, 43, 113]⟩, ⟨#[112, 43, 113]⟩, ⟨#[100, 97, 116, 97, 43, 100, 97, 116, 97]⟩]
def nameI (k : Int) : ByteArray := if 0 ≤ k ∧ k < 8 then nmL.getD k.toNat noS else noS
/-- the variable's cells. -/
def Names (w : World) : Prop := ∀ j, j < 8 → w.cell? ⟨0, j, none⟩ = some (.string (nmL.getD j noS))
theorem Names.kp {w w' : World} (h : Names w) (k : Kp w w') : Names w' := fun j hj => k.held (h j hj)
def lz : List (String × DataW Unit) := Rows.repairSortsRow.laid

theorem door_met (os : Os) (args : Array Value) : laidMetH Tryz.prog lz ((World.doorLaid Tryz.prog 400 os).forCall (fun _ _ => 0) ⟨#[], args, []⟩).memory :=
  laidMetH_of_parts3 (fuel := 8) (laidMet_of_run' 8 (by kernel_rfl) (by kernel_rfl)) (by kernel_rfl) (by kernel_rfl)

theorem of_laid {W : World} (h : laidMetH Tryz.prog lz W) : Names W := by
  rw [MakeChecks.laidMetH_plain _ _ _ (by kernel_rfl)] at h
  obtain ⟨ps, ⟨g0, t0, cs0, f0, p0, q0, hg0, ht0, hv0, hd0, _, _⟩, _, _⟩ := h
  have e0 : some g0 = some 0 := hg0.symm.trans (by kernel_rfl)
  obtain rfl := Option.some.inj e0
  have e1 : some t0 = some 58 := ht0.symm.trans (by kernel_rfl)
  obtain rfl := Option.some.inj e1
  obtain ⟨xs, m1, rfl, hx1, hlen, hn3, hel⟩ := DataW.trod_array Tryz.underlying58 hd0
  have c9 : Tryz.prog.cellsOf 9 = 1 := by kernel_rfl
  obtain ⟨hag, _⟩ := Prod.mk.inj hx1
  have hl : xs.map (·.1) = [.lit (.string [119, 104, 111, 108, 101]), .lit (.string [100, 97, 116, 97]), .lit (.string [112]), .lit (.string [113]), .lit (.string [100, 97, 116, 97, 43, 112]), .lit (.string [100, 97, 116, 97, 43, 113]), .lit (.string [112, 43, 113]), .lit (.string [100, 97, 116, 97, 43, 100, 97, 116, 97])] := (DataW.agg.inj hag).symm
  intro j hj
  have hj' := hel j hj
  rw [c9, Nat.mul_one, List.getElem?_eq_getElem (by omega)] at hj'
  obtain ⟨s, e2, e3, _⟩ := DataW.trod_string Tryz.underlying9 hj'
  have e4 : cs0.toList[j]? = some (.string s) := by
    have := congrArg (fun l => l[0]?) e2
    simpa using this
  have hc := World.var?_cell hg0 hv0 j
  rw [← Array.getElem?_toList, e4] at hc
  have e5 : (xs.map (·.1))[j]? = some (.lit (.string s.data.toList)) := by
    rw [List.getElem?_map, List.getElem?_eq_getElem (by omega)]
    simp [e3]
  rw [hl] at e5
  have e6 : s = nmL.getD j noS := by
    apply Go.WideShapes.bytes_inj
    have h : j = 0 ∨ j = 1 ∨ j = 2 ∨ j = 3 ∨ j = 4 ∨ j = 5 ∨ j = 6 ∨ j = 7 := by omega
    rcases h with rfl | rfl | rfl | rfl | rfl | rfl | rfl | rfl <;> (simp at e5; rw [← e5]; rfl)
  rw [← e6]
  exact hc

def knB (k : Int) : Bool := decide (0 ≤ k ∧ k < 8)
theorem known_any (k : Int) (w : World) : Calls Tryz.prog 24 #[.int .i64 k] w fun e w' => e = .returned (.bool (knB k)) ∧ w' = w := by
  unfold knB
  by_cases h1 : 0 ≤ k
  · by_cases h2 : k < 8
    · rw [decide_eq_true (p := 0 ≤ k ∧ k < 8) ⟨h1, h2⟩]
      go_enter Tryz.func24, Tryz.ntmps24
      go_wp2
      go_ret
      exact ⟨by simp, rfl⟩
    · rw [decide_eq_false (p := 0 ≤ k ∧ k < 8) (by omega)]
      have h2' : 8 ≤ k := by omega
      clear h2
      go_enter Tryz.func24, Tryz.ntmps24
      go_wp2
      go_ret
      exact ⟨by simp; omega, rfl⟩
  · rw [decide_eq_false (p := 0 ≤ k ∧ k < 8) (by omega)]
    have h1' : k < 0 := by omega
    clear h1
    go_enter Tryz.func24, Tryz.ntmps24
    go_wp2
    go_ret
    exact ⟨rfl, rfl⟩

set_option maxHeartbeats 1000000 in
theorem name_any (k : Int) (w : World) (h : Names w) : Calls Tryz.prog 12 #[.int .i64 k] w fun e w' => e = .returned (.string (nameI k)) ∧ w' = w := by
  have hK := known_any k w
  unfold nameI
  by_cases hb : 0 ≤ k ∧ k < 8
  · rw [if_pos hb]
    rw [show knB k = true from decide_eq_true hb] at hK
    obtain ⟨n, rfl⟩ : ∃ n : Nat, k = n := ⟨k.toNat, by omega⟩
    have hn : n < 8 := by omega
    have hc := h n hn
    rw [show ((n : Nat) : Int).toNat = n by omega]
    obtain ⟨s, hs⟩ : ∃ s, s = nmL.getD n noS := ⟨_, rfl⟩
    rw [← hs] at hc ⊢
    clear hs h hb
    go_enter Tryz.func12, Tryz.ntmps12
    go_wp2_with fail
    refine hK.mono ?_; rintro e w' ⟨rfl, rfl⟩
    go_wp2
    go_ret
    exact ⟨rfl, rfl⟩
  · rw [if_neg hb]
    rw [show knB k = false from decide_eq_false hb] at hK
    clear hb
    go_enter Tryz.func12, Tryz.ntmps12
    go_wp2_with fail
    refine hK.mono ?_; rintro e w' ⟨rfl, rfl⟩
    go_wp2
    go_ret
    exact ⟨rfl, rfl⟩

def doneI (cnt : Nat → Int) (k : Int) : Int := if 0 ≤ k ∧ k < 8 then cnt k.toNat else 0
theorem fix_nil (a l : Value) (w : World) : Calls Tryz.prog 16 #[.pointer none, a, l] w fun e w' => e = .returned (.tuple #[.slice none 0 0, .int .i64 1]) ∧ w' = w := by
  go_enter Tryz.func16, Tryz.ntmps16
  go_wp2
  go_ret2
  exact ⟨rfl, rfl⟩

/-! ### the laws' wakes -/
def wkL : List ByteArray := [⟨#[63]⟩, ⟨#[1]⟩, ⟨#[109, 111, 114, 101]⟩, ⟨#[1]⟩, ⟨#[7]⟩]
theorem wk_d2 : dst [2, 0] = [0, 2] := by rw [dst_gn 5 [2, 0] (by decide)]; decide
theorem wk_d3 : dst [2, 0, 2] = [0, 2] := by rw [dst_gn 5 [2, 0, 2] (by decide)]; decide
theorem wk5_sr : srE 3 [2, 0, 2] = 0 ∧ srK 3 [2, 0, 2] = 7 := by
  have e : srE 3 [2, 0, 2] = 0 := by unfold srE; rw [wk_d3]; decide
  refine ⟨e, ?_⟩
  unfold srK
  rw [e, wk_d3]; decide
theorem wk5_s2 : srE ((wkL.length : Int) - 2) [2, 0] = 0 := by
  rw [show (wkL.length : Int) - 2 = 3 by decide]
  unfold srE; rw [wk_d2]; decide
theorem wk5_e : fxE wkL [2, 0] = 0 := by
  unfold fxE
  rw [wk5_s2]
  decide +kernel
theorem wk5_fx : fxL wkL [2, 0] = [⟨#[1]⟩, ⟨#[1]⟩, ⟨#[1]⟩, ⟨#[1]⟩, ⟨#[7]⟩] := by
  unfold fxL
  rw [wk5_e]
  decide +kernel
theorem wk5_nm : nameI 7 = ⟨#[100, 97, 116, 97, 43, 100, 97, 116, 97]⟩ := by decide +kernel

end Go.Proofs.YtbcmgogfpboibaaGreatDoor
