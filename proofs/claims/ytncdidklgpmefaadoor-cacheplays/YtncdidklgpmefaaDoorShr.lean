/-
  What several layers' texts say alike: rows of numbers in memory, stores into listed blocks. No condition.
-/
import Derived.Test.YtncdidklgpmefaaDoorMkTail
import Derived.Test.YtncdidklgpmefaaDoorBufArgs
import Derived.KernelRfl
import Derived.LaidMore
import Derived.Deep.OwnRows
import Derived.Maps.AppendAt
import Derived.WalkKit
namespace Go.Proofs.YtncdidklgpmefaaDoor
open Go.RowKit Plain
set_option linter.unusedVariables false

theorem Kp.own {w w' : World} (k : Kp w w') {base : Nat} {e : TypeId} {size : Nat} {v : Value} {n : Nat} {xs : List Value} (h : w.ownsRow base e size v n xs) : w'.ownsRow base e size v n xs := by
  rcases h.2 with ⟨h', h0⟩ | ⟨g, cap, cur, h', hb, hg, hr⟩
  · exact ⟨h.1, .inl ⟨h', h0⟩⟩
  · exact ⟨h.1, .inr ⟨g, cap, cur, h', hb, (k.block g (Array.getElem?_eq_some_iff.1 hg).1).trans hg, hr⟩⟩
theorem own_lt {w : World} {base : Nat} {e : TypeId} {size : Nat} {v : Value} {n : Nat} {xs : List Value} (h : w.ownsRow base e size v n xs) : ∀ k, v.ownBlock = some k → base ≤ k := fun k hk => (h.lt k hk).1
theorem info_int : (Tryd.prog.info? 3).map (fun i => (i.zero, i.size, i.bytes)) = some (some (.int .i64 0), 1, 8) := by kernel_rfl

end Go.Proofs.YtncdidklgpmefaaDoor
