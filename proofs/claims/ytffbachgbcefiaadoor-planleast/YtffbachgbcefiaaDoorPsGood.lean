/-
  Contract of State's good. No condition.
-/
import Derived.Test.YtffbachgbcefiaaDoorPsGdA
import Derived.Test.YtffbachgbcefiaaDoorPsGdB
import Derived.Test.YtffbachgbcefiaaDoorPsGdC
import Derived.Test.YtffbachgbcefiaaDoorPsGdD
namespace Go.Proofs.YtffbachgbcefiaaDoor
open Go.RowKit Plain
set_option linter.unusedVariables false
set_option linter.unusedSimpArgs false

theorem good_any (s : PS) (w : World) : Calls Tryd.prog 21 #[PV s] w fun e w' => e = .returned (.bool (gdP s)) ∧ Kp w w' := by
  by_cases c1 : 2 ≤ s.D
  case neg => exact good_1_any s c1 w
  by_cases c2 : s.D ≤ 30
  case neg => exact good_2_any s c1 c2 w
  cases c3 : emB s.y with
  | true => exact good_3_any s c1 c2 c3 w
  | false =>
  cases c4 : subB s.y s.h with
  | false => exact good_4_any s c1 c2 c3 c4 w
  | true =>
  cases c5 : subB s.h (upF s.D) with
  | false => exact good_5_any s c1 c2 c3 c4 c5 w
  | true =>
  cases c6 : subB s.k (upF s.D) with
  | false => exact good_6_any s c1 c2 c3 c4 c5 c6 w
  | true =>
  cases c7 : subB s.l (upF (s.D + 2)) with
  | false => exact good_7_any s c1 c2 c3 c4 c5 c6 c7 w
  | true => exact good_8_any s c1 c2 c3 c4 c5 c6 c7 w

end Go.Proofs.YtffbachgbcefiaaDoor
