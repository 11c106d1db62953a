/-
  DERIVED. GIVEN WITH THE SEED: THE CARDS: each row of YtonooelffokfkaaGreatDoorRows.lean that lists a variable, with what it lists TIED to the program's text (the seventh form; the later family's looks); each row that meets fmt, with fmt's text TOLD by the authors' own Lean function (tested against real Go, not proved from fmt's source: count such statements apart). THE CARD IS WHAT COUNTS. Prove the row's statement (the work); the ties are given (YtonooelffokfkaaGreatDoorTie.lean); close each card by the builder's one call (the guide's Derived/Test/ToyasCard.lean, 'card_holds'). Laid BY PROGRAM, IN A SANDBOX (cutbox-door.mjs). By AI agents, Wed Nov 11 2026. No macro, syntax, notation, axiom, sorry.
-/
import Derived.Test.YtonooelffokfkaaGreatDoorRows
import GoSem.ClaimSeven
namespace Go.Proofs.YtonooelffokfkaaGreatDoor
namespace Rows

/-- THE TIED CARD OF 'trunnionlaw16.RowLost'. -/
def rowLostCard : Claim7 := { stood := { row := rowLostRow, standIns := [], harness := (true, "083c3dd7f3e57206448203596c4f89915a95a115a1d0c81fb2b79672bafaf198"), looks := false }, kinds := [], alts := [], laidByText := true, laidKinds := [.data], laidTests := true, laidLooks := .later }
def RowLostCardSaid : Prop := Claim7.holds Tryz.pinned (.plain (OpenSpec.ofChange rowLostSpec)) rowLostCard

/-- THE TIED CARD OF 'trunnionlaw16.RowLoads'. -/
def rowLoadsCard : Claim7 := { stood := { row := rowLoadsRow, standIns := [], harness := (true, "083c3dd7f3e57206448203596c4f89915a95a115a1d0c81fb2b79672bafaf198"), looks := false }, kinds := [], alts := [], laidByText := true, laidKinds := [.data], laidTests := true, laidLooks := .later }
def RowLoadsCardSaid : Prop := Claim7.holds Tryz.pinned (.plain (OpenSpec.ofChange rowLoadsSpec)) rowLoadsCard

/-- THE TIED CARD OF 'trunnionlaw16.RowWrites'. -/
def rowWritesCard : Claim7 := { stood := { row := rowWritesRow, standIns := [], harness := (true, "083c3dd7f3e57206448203596c4f89915a95a115a1d0c81fb2b79672bafaf198"), looks := false }, kinds := [], alts := [], laidByText := true, laidKinds := [.data], laidTests := true, laidLooks := .later }
def RowWritesCardSaid : Prop := Claim7.holds Tryz.pinned (.plain (OpenSpec.ofChange rowWritesSpec)) rowWritesCard

/-- THE TIED CARD OF 'trunnionlaw16.RowTwo'. -/
def rowTwoCard : Claim7 := { stood := { row := rowTwoRow, standIns := [], harness := (true, "083c3dd7f3e57206448203596c4f89915a95a115a1d0c81fb2b79672bafaf198"), looks := false }, kinds := [], alts := [], laidByText := true, laidKinds := [.data], laidTests := true, laidLooks := .later }
def RowTwoCardSaid : Prop := Claim7.holds Tryz.pinned (.plain (OpenSpec.ofChange rowTwoSpec)) rowTwoCard

/-- THE TIED CARD OF 'trunnionlaw16.RowCounts'. -/
def rowCountsCard : Claim7 := { stood := { row := rowCountsRow, standIns := [], harness := (true, "083c3dd7f3e57206448203596c4f89915a95a115a1d0c81fb2b79672bafaf198"), looks := false }, kinds := [], alts := [], laidByText := true, laidKinds := [.data], laidTests := true, laidLooks := .later }
def RowCountsCardSaid : Prop := Claim7.holds Tryz.pinned (.plain (OpenSpec.ofChange rowCountsSpec)) rowCountsCard

/-- THE SECOND FORM's CARD OF 'trunnionlaw16.RowLost'. -/
def rowLostUptoCard : Claim7 := { stood := { row := rowLostUptoRow, standIns := [], harness := (true, "083c3dd7f3e57206448203596c4f89915a95a115a1d0c81fb2b79672bafaf198"), looks := false }, kinds := [], alts := [], laidByText := true, laidKinds := [.data], laidTests := true, laidLooks := .later }
def RowLostUptoCardSaid : Prop := Claim7.holds Tryz.pinned (.plain (OpenSpec.upto rowLostSpec)) rowLostUptoCard

/-- THE SECOND FORM's CARD OF 'trunnionlaw16.RowLoads'. -/
def rowLoadsUptoCard : Claim7 := { stood := { row := rowLoadsUptoRow, standIns := [], harness := (true, "083c3dd7f3e57206448203596c4f89915a95a115a1d0c81fb2b79672bafaf198"), looks := false }, kinds := [], alts := [], laidByText := true, laidKinds := [.data], laidTests := true, laidLooks := .later }
def RowLoadsUptoCardSaid : Prop := Claim7.holds Tryz.pinned (.plain (OpenSpec.upto rowLoadsSpec)) rowLoadsUptoCard

/-- THE SECOND FORM's CARD OF 'trunnionlaw16.RowWrites'. -/
def rowWritesUptoCard : Claim7 := { stood := { row := rowWritesUptoRow, standIns := [], harness := (true, "083c3dd7f3e57206448203596c4f89915a95a115a1d0c81fb2b79672bafaf198"), looks := false }, kinds := [], alts := [], laidByText := true, laidKinds := [.data], laidTests := true, laidLooks := .later }
def RowWritesUptoCardSaid : Prop := Claim7.holds Tryz.pinned (.plain (OpenSpec.upto rowWritesSpec)) rowWritesUptoCard

/-- THE SECOND FORM's CARD OF 'trunnionlaw16.RowTwo'. -/
def rowTwoUptoCard : Claim7 := { stood := { row := rowTwoUptoRow, standIns := [], harness := (true, "083c3dd7f3e57206448203596c4f89915a95a115a1d0c81fb2b79672bafaf198"), looks := false }, kinds := [], alts := [], laidByText := true, laidKinds := [.data], laidTests := true, laidLooks := .later }
def RowTwoUptoCardSaid : Prop := Claim7.holds Tryz.pinned (.plain (OpenSpec.upto rowTwoSpec)) rowTwoUptoCard

/-- THE SECOND FORM's CARD OF 'trunnionlaw16.RowCounts'. -/
def rowCountsUptoCard : Claim7 := { stood := { row := rowCountsUptoRow, standIns := [], harness := (true, "083c3dd7f3e57206448203596c4f89915a95a115a1d0c81fb2b79672bafaf198"), looks := false }, kinds := [], alts := [], laidByText := true, laidKinds := [.data], laidTests := true, laidLooks := .later }
def RowCountsUptoCardSaid : Prop := Claim7.holds Tryz.pinned (.plain (OpenSpec.upto rowCountsSpec)) rowCountsUptoCard
end Rows
end Go.Proofs.YtonooelffokfkaaGreatDoor
