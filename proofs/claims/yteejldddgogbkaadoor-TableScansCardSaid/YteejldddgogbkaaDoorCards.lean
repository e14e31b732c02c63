/-
  DERIVED. GIVEN WITH THE SEED: THE CARDS: each row of YteejldddgogbkaaDoorRows.lean that lists a variable, with what it lists TIED to the program's text (the seventh form; the later family's looks); each row that meets fmt, with fmt's text TOLD by the authors' own Lean function (tested against real Go, not proved from fmt's source: count such statements apart). THE CARD IS WHAT COUNTS. Prove the row's statement (the work); the ties are given (YteejldddgogbkaaDoorTie.lean); close each card by the builder's one call (the guide's Derived/Test/ToyasCard.lean, 'card_holds'). Laid BY PROGRAM, IN A SANDBOX (cutbox-door.mjs). By AI agents, Wed Nov 11 2026. No macro, syntax, notation, axiom, sorry.
-/
import Derived.Test.YteejldddgogbkaaDoorRows
import GoSem.ClaimSeven
namespace Go.Proofs.YteejldddgogbkaaDoor
namespace Rows

/-- THE TIED CARD OF 'silolaw09.TableTells'. -/
def tableTellsCard : Claim7 := { stood := { row := tableTellsRow, standIns := [], harness := (true, "d7da1117451ae689778317a5c29630f93f82024e6c6c46fc16761cddbd73e3b6"), looks := false }, kinds := [], alts := [], laidByText := true, laidKinds := [.data], laidTests := true, laidLooks := .later }
def TableTellsCardSaid : Prop := Claim7.holds Tryd.pinned (.plain (OpenSpec.ofChange tableTellsSpec)) tableTellsCard

/-- THE TIED CARD OF 'silolaw09.TableSpoilt'. -/
def tableSpoiltCard : Claim7 := { stood := { row := tableSpoiltRow, standIns := [], harness := (true, "d7da1117451ae689778317a5c29630f93f82024e6c6c46fc16761cddbd73e3b6"), looks := false }, kinds := [], alts := [], laidByText := true, laidKinds := [.data], laidTests := true, laidLooks := .later }
def TableSpoiltCardSaid : Prop := Claim7.holds Tryd.pinned (.plain (OpenSpec.ofChange tableSpoiltSpec)) tableSpoiltCard

/-- THE TIED CARD OF 'silolaw09.TableScans'. -/
def tableScansCard : Claim7 := { stood := { row := tableScansRow, standIns := [], harness := (true, "d7da1117451ae689778317a5c29630f93f82024e6c6c46fc16761cddbd73e3b6"), looks := false }, kinds := [], alts := [], laidByText := true, laidKinds := [.data], laidTests := true, laidLooks := .later }
def TableScansCardSaid : Prop := Claim7.holds Tryd.pinned (.plain (OpenSpec.ofChange tableScansSpec)) tableScansCard

/-- THE TIED CARD OF 'silolaw09.TableNil'. -/
def tableNilCard : Claim7 := { stood := { row := tableNilRow, standIns := [], harness := (true, "d7da1117451ae689778317a5c29630f93f82024e6c6c46fc16761cddbd73e3b6"), looks := false }, kinds := [], alts := [], laidByText := true, laidKinds := [.data], laidTests := true, laidLooks := .later }
def TableNilCardSaid : Prop := Claim7.holds Tryd.pinned (.plain (OpenSpec.ofChange tableNilSpec)) tableNilCard

/-- THE SECOND FORM's CARD OF 'silolaw09.TableTells'. -/
def tableTellsUptoCard : Claim7 := { stood := { row := tableTellsUptoRow, standIns := [], harness := (true, "d7da1117451ae689778317a5c29630f93f82024e6c6c46fc16761cddbd73e3b6"), looks := false }, kinds := [], alts := [], laidByText := true, laidKinds := [.data], laidTests := true, laidLooks := .later }
def TableTellsUptoCardSaid : Prop := Claim7.holds Tryd.pinned (.plain (OpenSpec.upto tableTellsSpec)) tableTellsUptoCard

/-- THE SECOND FORM's CARD OF 'silolaw09.TableSpoilt'. -/
def tableSpoiltUptoCard : Claim7 := { stood := { row := tableSpoiltUptoRow, standIns := [], harness := (true, "d7da1117451ae689778317a5c29630f93f82024e6c6c46fc16761cddbd73e3b6"), looks := false }, kinds := [], alts := [], laidByText := true, laidKinds := [.data], laidTests := true, laidLooks := .later }
def TableSpoiltUptoCardSaid : Prop := Claim7.holds Tryd.pinned (.plain (OpenSpec.upto tableSpoiltSpec)) tableSpoiltUptoCard

/-- THE SECOND FORM's CARD OF 'silolaw09.TableScans'. -/
def tableScansUptoCard : Claim7 := { stood := { row := tableScansUptoRow, standIns := [], harness := (true, "d7da1117451ae689778317a5c29630f93f82024e6c6c46fc16761cddbd73e3b6"), looks := false }, kinds := [], alts := [], laidByText := true, laidKinds := [.data], laidTests := true, laidLooks := .later }
def TableScansUptoCardSaid : Prop := Claim7.holds Tryd.pinned (.plain (OpenSpec.upto tableScansSpec)) tableScansUptoCard

/-- THE SECOND FORM's CARD OF 'silolaw09.TableNil'. -/
def tableNilUptoCard : Claim7 := { stood := { row := tableNilUptoRow, standIns := [], harness := (true, "d7da1117451ae689778317a5c29630f93f82024e6c6c46fc16761cddbd73e3b6"), looks := false }, kinds := [], alts := [], laidByText := true, laidKinds := [.data], laidTests := true, laidLooks := .later }
def TableNilUptoCardSaid : Prop := Claim7.holds Tryd.pinned (.plain (OpenSpec.upto tableNilSpec)) tableNilUptoCard
end Rows
end Go.Proofs.YteejldddgogbkaaDoor
