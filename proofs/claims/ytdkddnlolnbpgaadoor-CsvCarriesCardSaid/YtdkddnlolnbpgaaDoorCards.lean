/-
  DERIVED. GIVEN WITH THE SEED: THE CARDS: each row of YtdkddnlolnbpgaaDoorRows.lean that lists a variable, with what it lists TIED to the program's text (the seventh form; the later family's looks); each row that meets fmt, with fmt's text TOLD by the authors' own Lean function (tested against real Go, not proved from fmt's source: count such statements apart). THE CARD IS WHAT COUNTS. Prove the row's statement (the work); the ties are given (YtdkddnlolnbpgaaDoorTie.lean); close each card by the builder's one call (the guide's Derived/Test/ToyasCard.lean, 'card_holds'). Laid BY PROGRAM, IN A SANDBOX (cutbox-door.mjs). By AI agents, Wed Nov 11 2026. No macro, syntax, notation, axiom, sorry.
-/
import Derived.Test.YtdkddnlolnbpgaaDoorRows
import GoSem.ClaimSeven
namespace Go.Proofs.YtdkddnlolnbpgaaDoor
namespace Rows

/-- THE TIED CARD OF 'refrainlaw4.CsvCarries'. -/
def csvCarriesCard : Claim7 := { stood := { row := csvCarriesRow, standIns := [], harness := (true, "d76f0765c3c8c0c1998da1246a504593df38e870eefe17ac7ca5506bf9524c06"), looks := true }, kinds := [], alts := [], laidByText := true, laidKinds := [.data, .data, .data, .data, .sentinel, .sentinel, .pinned], laidTests := true, laidLooks := .later }
def CsvCarriesCardSaid : Prop := Claim7.holds Tryd.pinned (.plain (OpenSpec.ofChange csvCarriesSpec)) csvCarriesCard

/-- THE SECOND FORM's CARD OF 'refrainlaw4.CsvCarries'. -/
def csvCarriesUptoCard : Claim7 := { stood := { row := csvCarriesUptoRow, standIns := [], harness := (true, "d76f0765c3c8c0c1998da1246a504593df38e870eefe17ac7ca5506bf9524c06"), looks := true }, kinds := [], alts := [], laidByText := true, laidKinds := [.data, .data, .data, .data, .sentinel, .sentinel, .pinned], laidTests := true, laidLooks := .later }
def CsvCarriesUptoCardSaid : Prop := Claim7.holds Tryd.pinned (.plain (OpenSpec.upto csvCarriesSpec)) csvCarriesUptoCard
end Rows
end Go.Proofs.YtdkddnlolnbpgaaDoor
