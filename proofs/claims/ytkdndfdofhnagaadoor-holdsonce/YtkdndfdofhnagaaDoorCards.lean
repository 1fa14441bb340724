/-
  DERIVED. GIVEN WITH THE SEED: THE CARDS: each row of YtkdndfdofhnagaaDoorRows.lean that lists a variable, with what it lists TIED to the program's text (the seventh form; the later family's looks); each row that meets fmt, with fmt's text TOLD by the authors' own Lean function (tested against real Go, not proved from fmt's source: count such statements apart). THE CARD IS WHAT COUNTS. Prove the row's statement (the work); the ties are given (YtkdndfdofhnagaaDoorTie.lean); close each card by the builder's one call (the guide's Derived/Test/ToyasCard.lean, 'card_holds'). Laid BY PROGRAM, IN A SANDBOX (cutbox-door.mjs). By AI agents, Wed Nov 11 2026. No macro, syntax, notation, axiom, sorry.
-/
import Derived.Test.YtkdndfdofhnagaaDoorRows
import GoSem.ClaimSeven
namespace Go.Proofs.YtkdndfdofhnagaaDoor
namespace Rows

/-- THE TIED CARD OF 'sluicelaw7.HoldsAll'. -/
def holdsAllCard : Claim7 := { stood := { row := holdsAllRow, standIns := [], harness := (true, "90c8d30a7f50c3751c179708b3705e1fc44f77dc117964f69a85eb3208062187"), looks := true }, kinds := [], alts := [], laidByText := true, laidKinds := [.sentinel, .sentinel, .sentinel], laidTests := true, laidLooks := .later }
def HoldsAllCardSaid : Prop := Claim7.holds Tryd.pinned (.plain (OpenSpec.ofChange holdsAllSpec)) holdsAllCard

/-- THE TIED CARD OF 'sluicelaw7.HoldsOnce'. -/
def holdsOnceCard : Claim7 := { stood := { row := holdsOnceRow, standIns := [], harness := (true, "90c8d30a7f50c3751c179708b3705e1fc44f77dc117964f69a85eb3208062187"), looks := true }, kinds := [], alts := [], laidByText := true, laidKinds := [.sentinel, .sentinel, .sentinel], laidTests := true, laidLooks := .later }
def HoldsOnceCardSaid : Prop := Claim7.holds Tryd.pinned (.plain (OpenSpec.ofChange holdsOnceSpec)) holdsOnceCard

/-- THE TIED CARD OF 'sluicelaw7.HoldsBack'. -/
def holdsBackCard : Claim7 := { stood := { row := holdsBackRow, standIns := [], harness := (true, "90c8d30a7f50c3751c179708b3705e1fc44f77dc117964f69a85eb3208062187"), looks := true }, kinds := [], alts := [], laidByText := true, laidKinds := [.sentinel, .sentinel, .sentinel], laidTests := true, laidLooks := .later }
def HoldsBackCardSaid : Prop := Claim7.holds Tryd.pinned (.plain (OpenSpec.ofChange holdsBackSpec)) holdsBackCard

/-- THE TIED CARD OF 'sluicelaw7.HoldsEnds'. -/
def holdsEndsCard : Claim7 := { stood := { row := holdsEndsRow, standIns := [], harness := (true, "90c8d30a7f50c3751c179708b3705e1fc44f77dc117964f69a85eb3208062187"), looks := true }, kinds := [], alts := [], laidByText := true, laidKinds := [.sentinel, .sentinel, .sentinel], laidTests := true, laidLooks := .later }
def HoldsEndsCardSaid : Prop := Claim7.holds Tryd.pinned (.plain (OpenSpec.ofChange holdsEndsSpec)) holdsEndsCard

/-- THE TIED CARD OF 'sluicelaw7.HoldsLooks'. -/
def holdsLooksCard : Claim7 := { stood := { row := holdsLooksRow, standIns := [], harness := (true, "90c8d30a7f50c3751c179708b3705e1fc44f77dc117964f69a85eb3208062187"), looks := true }, kinds := [], alts := [], laidByText := true, laidKinds := [.sentinel, .sentinel, .sentinel], laidTests := true, laidLooks := .later }
def HoldsLooksCardSaid : Prop := Claim7.holds Tryd.pinned (.plain (OpenSpec.ofChange holdsLooksSpec)) holdsLooksCard

/-- THE SECOND FORM's CARD OF 'sluicelaw7.HoldsAll'. -/
def holdsAllUptoCard : Claim7 := { stood := { row := holdsAllUptoRow, standIns := [], harness := (true, "90c8d30a7f50c3751c179708b3705e1fc44f77dc117964f69a85eb3208062187"), looks := true }, kinds := [], alts := [], laidByText := true, laidKinds := [.sentinel, .sentinel, .sentinel], laidTests := true, laidLooks := .later }
def HoldsAllUptoCardSaid : Prop := Claim7.holds Tryd.pinned (.plain (OpenSpec.upto holdsAllSpec)) holdsAllUptoCard

/-- THE SECOND FORM's CARD OF 'sluicelaw7.HoldsOnce'. -/
def holdsOnceUptoCard : Claim7 := { stood := { row := holdsOnceUptoRow, standIns := [], harness := (true, "90c8d30a7f50c3751c179708b3705e1fc44f77dc117964f69a85eb3208062187"), looks := true }, kinds := [], alts := [], laidByText := true, laidKinds := [.sentinel, .sentinel, .sentinel], laidTests := true, laidLooks := .later }
def HoldsOnceUptoCardSaid : Prop := Claim7.holds Tryd.pinned (.plain (OpenSpec.upto holdsOnceSpec)) holdsOnceUptoCard

/-- THE SECOND FORM's CARD OF 'sluicelaw7.HoldsBack'. -/
def holdsBackUptoCard : Claim7 := { stood := { row := holdsBackUptoRow, standIns := [], harness := (true, "90c8d30a7f50c3751c179708b3705e1fc44f77dc117964f69a85eb3208062187"), looks := true }, kinds := [], alts := [], laidByText := true, laidKinds := [.sentinel, .sentinel, .sentinel], laidTests := true, laidLooks := .later }
def HoldsBackUptoCardSaid : Prop := Claim7.holds Tryd.pinned (.plain (OpenSpec.upto holdsBackSpec)) holdsBackUptoCard

/-- THE SECOND FORM's CARD OF 'sluicelaw7.HoldsEnds'. -/
def holdsEndsUptoCard : Claim7 := { stood := { row := holdsEndsUptoRow, standIns := [], harness := (true, "90c8d30a7f50c3751c179708b3705e1fc44f77dc117964f69a85eb3208062187"), looks := true }, kinds := [], alts := [], laidByText := true, laidKinds := [.sentinel, .sentinel, .sentinel], laidTests := true, laidLooks := .later }
def HoldsEndsUptoCardSaid : Prop := Claim7.holds Tryd.pinned (.plain (OpenSpec.upto holdsEndsSpec)) holdsEndsUptoCard

/-- THE SECOND FORM's CARD OF 'sluicelaw7.HoldsLooks'. -/
def holdsLooksUptoCard : Claim7 := { stood := { row := holdsLooksUptoRow, standIns := [], harness := (true, "90c8d30a7f50c3751c179708b3705e1fc44f77dc117964f69a85eb3208062187"), looks := true }, kinds := [], alts := [], laidByText := true, laidKinds := [.sentinel, .sentinel, .sentinel], laidTests := true, laidLooks := .later }
def HoldsLooksUptoCardSaid : Prop := Claim7.holds Tryd.pinned (.plain (OpenSpec.upto holdsLooksSpec)) holdsLooksUptoCard
end Rows
end Go.Proofs.YtkdndfdofhnagaaDoor
