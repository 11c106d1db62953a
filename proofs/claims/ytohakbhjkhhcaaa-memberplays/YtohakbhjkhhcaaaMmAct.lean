/-
  The law's act. Conditions: both members lie in memory, apart; few writes wait.
-/
import Derived.Test.YtohakbhjkhhcaaaMmAct1
import Derived.Test.YtohakbhjkhhcaaaMmAct2
import Derived.Test.YtohakbhjkhhcaaaMmAct3
import Derived.Test.YtohakbhjkhhcaaaMmAct4
import Derived.Test.YtohakbhjkhhcaaaMmAct5
import Derived.Deep.QuietTactic
import Derived.BigQuiet
import Derived.Deep.RegionWith
import Derived.Deep.RegionHeld3
import Derived.Deep.DeepCutAuto
import Derived.Deep.CutBlock
namespace Go.Proofs.Ytohakbhjkhhcaaa
open Go.RowKit Plain
set_option linter.unusedVariables false

theorem act_any {w0 W : World} {T : List Nat} {x r : Nat} {S : MS} (K : Kp w0 W) (hPr : Pr w0 W T x r S S) (hR : Right S) (hrl : S.row.length < 999999) (op at_ : Int) (d : Nat) (odd : Bool) (a0 : Option Addr) (n0 cap0 : Nat) (ks : List Nat) (hd8 : d < 256) (hk : KeIn w0 (.slice a0 n0 cap0) ks) : Calls Try.prog 11 #[.pointer (some ⟨x, 0, none⟩), .pointer (some ⟨r, 0, none⟩), .agg #[.int .i64 op, .int .i64 at_, .int .u8 (d : Int), .bool odd, .slice a0 n0 cap0]] W fun e w' => e = .returned (.bool true) ∧ ∃ S', Right S' ∧ S'.row.length ≤ S.row.length + 1 ∧ Px w0 W T x r S' S' w' := by
  have h1 : op.tmod 9 < 9 := Int.tmod_lt_of_pos op (by omega)
  have h2 : -9 < op.tmod 9 := Int.lt_tmod_of_pos op (by omega)
  have h3 : op.tmod 9 = -8 ∨ op.tmod 9 = -7 ∨ op.tmod 9 = -6 ∨ op.tmod 9 = -5 ∨ op.tmod 9 = -4 ∨ op.tmod 9 = -3 ∨ op.tmod 9 = -2 ∨ op.tmod 9 = -1 ∨ op.tmod 9 = 0 ∨ op.tmod 9 = 1 ∨ op.tmod 9 = 2 ∨ op.tmod 9 = 3 ∨ op.tmod 9 = 4 ∨ op.tmod 9 = 5 ∨ op.tmod 9 = 6 ∨ op.tmod 9 = 7 ∨ op.tmod 9 = 8 := by omega
  rcases h3 with h | h | h | h | h | h | h | h | h | h | h | h | h | h | h | h | h
  · exact act_n8 K hPr hR hrl op at_ d odd a0 n0 cap0 ks hd8 hk h
  · exact act_n7 K hPr hR hrl op at_ d odd a0 n0 cap0 ks hd8 hk h
  · exact act_n6 K hPr hR hrl op at_ d odd a0 n0 cap0 ks hd8 hk h
  · exact act_n5 K hPr hR hrl op at_ d odd a0 n0 cap0 ks hd8 hk h
  · exact act_n4 K hPr hR hrl op at_ d odd a0 n0 cap0 ks hd8 hk h
  · exact act_n3 K hPr hR hrl op at_ d odd a0 n0 cap0 ks hd8 hk h
  · exact act_n2 K hPr hR hrl op at_ d odd a0 n0 cap0 ks hd8 hk h
  · exact act_n1 K hPr hR hrl op at_ d odd a0 n0 cap0 ks hd8 hk h
  · exact act_p0 K hPr hR hrl op at_ d odd a0 n0 cap0 ks hd8 hk h
  · exact act_p1 K hPr hR hrl op at_ d odd a0 n0 cap0 ks hd8 hk h
  · exact act_p2 K hPr hR hrl op at_ d odd a0 n0 cap0 ks hd8 hk h
  · exact act_p3 K hPr hR hrl op at_ d odd a0 n0 cap0 ks hd8 hk h
  · exact act_p4 K hPr hR hrl op at_ d odd a0 n0 cap0 ks hd8 hk h
  · exact act_p5 K hPr hR hrl op at_ d odd a0 n0 cap0 ks hd8 hk h
  · exact act_p6 K hPr hR hrl op at_ d odd a0 n0 cap0 ks hd8 hk h
  · exact act_p7 K hPr hR hrl op at_ d odd a0 n0 cap0 ks hd8 hk h
  · exact act_p8 K hPr hR hrl op at_ d odd a0 n0 cap0 ks hd8 hk h

end Go.Proofs.Ytohakbhjkhhcaaa
