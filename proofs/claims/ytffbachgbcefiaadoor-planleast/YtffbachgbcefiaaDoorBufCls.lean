/-
  The class of the worlds that hold what a world w held, for regions that draw their order: kpw w p; a contract met in such a world. Plain facts; no condition.
-/
import Derived.Test.YtffbachgbcefiaaDoorBufMem
import Derived.WalkKit
import Derived.BigQuiet
namespace Go.Proofs.YtffbachgbcefiaaDoor
open Go.RowKit

open Classical in
noncomputable def kpw (w : World) (p : List World) : World := if Kp w (p.headD w) then p.headD w else w
theorem kpw_kp (w : World) (p : List World) : Kp w (kpw w p) := by
  unfold kpw
  split
  · assumption
  · exact Kp.refl w
theorem kpw_of {w w' : World} (h : Kp w w') : ∃ p, w' = kpw w p := ⟨[w'], by
  unfold kpw
  rw [if_pos]
  · rfl
  · exact h⟩
theorem kpw_cell {w : World} {b o : Nat} {v : Value} (h : w.cell? ⟨b, o, none⟩ = some v) (p : List World) : (kpw w p).cell? ⟨b, o, none⟩ = some v := (kpw_kp w p).held h
/-- a region that draws its order, in the class of the worlds that hold what w held. -/
theorem wp_region_kp {P : Program} {id : Nat} {Q : Exit → Act → World → Prop} {a : Act} {w : World} {l : List Oper} (hm : P.follows .mixedOrders = true) (hB : Region.lexB .any l.toArray = true)
    (h : wpQuiet P l.toArray (fun w' => ∃ p, w' = kpw w p) (fun a' => ∀ w', (∃ p, w' = kpw w p) → Q .normal a' w') l a) : (Code.region id l.toArray true).wp P Q a w :=
  wp_region_quiet (C := fun w' => ∃ p, w' = kpw w p) hm hB (kpw_of (Kp.refl w).drew) (by simpa using h)
/-- a contract, met in such a world. -/
theorem kp_call {P : Program} {f : FuncId} {args : Array Value} {w : World} {p : List World} {v : Value}
    (h : Calls P f args (kpw w p) fun e w' => e = .returned v ∧ Kp (kpw w p) w') : Calls P f args (kpw w p) fun e w'' => e = .returned v ∧ ∃ p, w'' = kpw w p :=
  h.mono fun _ _ ⟨he, k⟩ => ⟨he, kpw_of ((kpw_kp w p).trans k)⟩
theorem kp_same {P : Program} {f : FuncId} {args : Array Value} {w : World} {p : List World} {v : Value}
    (h : Calls P f args (kpw w p) fun e w' => e = .returned v ∧ w' = kpw w p) : Calls P f args (kpw w p) fun e w'' => e = .returned v ∧ ∃ p, w'' = kpw w p :=
  h.mono fun _ _ ⟨he, k⟩ => ⟨he, p, k⟩

end Go.Proofs.YtffbachgbcefiaaDoor
