/-
  What several layers' texts say alike: rows of numbers in memory, stores into listed blocks. No condition.
-/
import Derived.Test.YtffbachgbcefiaaDoorMkTail
import Derived.Test.YtffbachgbcefiaaDoorBufArgs
import Derived.KernelRfl
import Derived.LaidMore
import Derived.Deep.OwnRows
import Derived.Maps.AppendAt
import Derived.WalkKit
namespace Go.Proofs.YtffbachgbcefiaaDoor
open Go.RowKit Plain
set_option linter.unusedVariables false



end Go.Proofs.YtffbachgbcefiaaDoor
