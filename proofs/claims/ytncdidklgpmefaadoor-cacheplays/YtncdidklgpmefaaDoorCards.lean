/-
  DERIVED. GIVEN WITH THE SEED: THE CARDS: each row of YtncdidklgpmefaaDoorRows.lean that lists a variable, with what it lists TIED to the program's text (the seventh form; the later family's looks); each row that meets fmt, with fmt's text TOLD by the authors' own Lean function (tested against real Go, not proved from fmt's source: count such statements apart). THE CARD IS WHAT COUNTS. Prove the row's statement (the work); the ties are given (YtncdidklgpmefaaDoorTie.lean); close each card by the builder's one call (the guide's Derived/Test/ToyasCard.lean, 'card_holds'). Laid BY PROGRAM, IN A SANDBOX (cutbox-door.mjs). By AI agents, Wed Nov 11 2026. No macro, syntax, notation, axiom, sorry.
-/
import Derived.Test.YtncdidklgpmefaaDoorRows
import GoSem.ClaimSeven
namespace Go.Proofs.YtncdidklgpmefaaDoor
namespace Rows

/-- THE TIED CARD OF 'trunnionlaw24.CachePlays'. -/
def cachePlaysCard : Claim7 := { stood := { row := cachePlaysRow, standIns := [], harness := (true, "8ec50e7e44b928a869c0aab1f50686fbbe45aa4dbcdcf075ead723a722dec0a3"), looks := false }, kinds := [], alts := [], laidByText := true, laidKinds := [.data], laidTests := true, laidLooks := .later }
def CachePlaysCardSaid : Prop := Claim7.holds Tryd.pinned (.plain (OpenSpec.ofChange cachePlaysSpec)) cachePlaysCard

/-- THE TIED CARD OF 'trunnionlaw24.CacheClean'. -/
def cacheCleanCard : Claim7 := { stood := { row := cacheCleanRow, standIns := [], harness := (true, "8ec50e7e44b928a869c0aab1f50686fbbe45aa4dbcdcf075ead723a722dec0a3"), looks := false }, kinds := [], alts := [], laidByText := true, laidKinds := [.data], laidTests := true, laidLooks := .later }
def CacheCleanCardSaid : Prop := Claim7.holds Tryd.pinned (.plain (OpenSpec.ofChange cacheCleanSpec)) cacheCleanCard

/-- THE SECOND FORM's CARD OF 'trunnionlaw24.CachePlays'. -/
def cachePlaysUptoCard : Claim7 := { stood := { row := cachePlaysUptoRow, standIns := [], harness := (true, "8ec50e7e44b928a869c0aab1f50686fbbe45aa4dbcdcf075ead723a722dec0a3"), looks := false }, kinds := [], alts := [], laidByText := true, laidKinds := [.data], laidTests := true, laidLooks := .later }
def CachePlaysUptoCardSaid : Prop := Claim7.holds Tryd.pinned (.plain (OpenSpec.upto cachePlaysSpec)) cachePlaysUptoCard

/-- THE SECOND FORM's CARD OF 'trunnionlaw24.CacheClean'. -/
def cacheCleanUptoCard : Claim7 := { stood := { row := cacheCleanUptoRow, standIns := [], harness := (true, "8ec50e7e44b928a869c0aab1f50686fbbe45aa4dbcdcf075ead723a722dec0a3"), looks := false }, kinds := [], alts := [], laidByText := true, laidKinds := [.data], laidTests := true, laidLooks := .later }
def CacheCleanUptoCardSaid : Prop := Claim7.holds Tryd.pinned (.plain (OpenSpec.upto cacheCleanSpec)) cacheCleanUptoCard
end Rows
end Go.Proofs.YtncdidklgpmefaaDoor
