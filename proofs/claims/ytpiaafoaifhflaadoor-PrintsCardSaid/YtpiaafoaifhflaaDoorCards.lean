/-
  DERIVED. GIVEN WITH THE SEED: THE CARDS: each row of YtpiaafoaifhflaaDoorRows.lean that lists a variable, with what it lists TIED to the program's text (the seventh form; the later family's looks); each row that meets fmt, with fmt's text TOLD by the authors' own Lean function (tested against real Go, not proved from fmt's source: count such statements apart). THE CARD IS WHAT COUNTS. Prove the row's statement (the work); the ties are given (YtpiaafoaifhflaaDoorTie.lean); close each card by the builder's one call (the guide's Derived/Test/ToyasCard.lean, 'card_holds'). Laid BY PROGRAM, IN A SANDBOX (cutbox-door.mjs). By AI agents, Wed Nov 11 2026. No macro, syntax, notation, axiom, sorry.
-/
import Derived.Test.YtpiaafoaifhflaaDoorRows
import GoSem.ClaimSeven
namespace Go.Proofs.YtpiaafoaifhflaaDoor
namespace Rows

/-- THE TIED CARD OF 'fibimagelaw.Checks'. -/
def checksCard : Claim7 := { stood := { row := checksRow, standIns := [], harness := (true, "b5a3b4347c9e57323ec3c15f9c47e1dd704b754633990ff04bba79f601c5788f"), looks := false }, kinds := [], alts := [], laidByText := true, laidKinds := [.data, .data, .data], laidTests := true, laidLooks := .later }
def ChecksCardSaid : Prop := Claim7.holds Tryd.pinned (.plain (OpenSpec.ofChange checksSpec)) checksCard

/-- THE TIED CARD OF 'fibimagelaw.Prints'. -/
def printsCard : Claim7 := { stood := { row := printsRow, standIns := [], harness := (true, "b5a3b4347c9e57323ec3c15f9c47e1dd704b754633990ff04bba79f601c5788f"), looks := false }, kinds := [], alts := [], laidByText := true, laidKinds := [.data, .data, .data], laidTests := true, laidLooks := .later }
def PrintsCardSaid : Prop := Claim7.holds Tryd.pinned (.plain (OpenSpec.ofChange printsSpec)) printsCard

/-- THE TIED CARD OF 'fibimagelaw.Finds'. -/
def findsCard : Claim7 := { stood := { row := findsRow, standIns := [], harness := (true, "b5a3b4347c9e57323ec3c15f9c47e1dd704b754633990ff04bba79f601c5788f"), looks := false }, kinds := [], alts := [], laidByText := true, laidKinds := [.data, .data, .data], laidTests := true, laidLooks := .later }
def FindsCardSaid : Prop := Claim7.holds Tryd.pinned (.plain (OpenSpec.ofChange findsSpec)) findsCard

/-- THE SECOND FORM's CARD OF 'fibimagelaw.Checks'. -/
def checksUptoCard : Claim7 := { stood := { row := checksUptoRow, standIns := [], harness := (true, "b5a3b4347c9e57323ec3c15f9c47e1dd704b754633990ff04bba79f601c5788f"), looks := false }, kinds := [], alts := [], laidByText := true, laidKinds := [.data, .data, .data], laidTests := true, laidLooks := .later }
def ChecksUptoCardSaid : Prop := Claim7.holds Tryd.pinned (.plain (OpenSpec.upto checksSpec)) checksUptoCard

/-- THE SECOND FORM's CARD OF 'fibimagelaw.Prints'. -/
def printsUptoCard : Claim7 := { stood := { row := printsUptoRow, standIns := [], harness := (true, "b5a3b4347c9e57323ec3c15f9c47e1dd704b754633990ff04bba79f601c5788f"), looks := false }, kinds := [], alts := [], laidByText := true, laidKinds := [.data, .data, .data], laidTests := true, laidLooks := .later }
def PrintsUptoCardSaid : Prop := Claim7.holds Tryd.pinned (.plain (OpenSpec.upto printsSpec)) printsUptoCard

/-- THE SECOND FORM's CARD OF 'fibimagelaw.Finds'. -/
def findsUptoCard : Claim7 := { stood := { row := findsUptoRow, standIns := [], harness := (true, "b5a3b4347c9e57323ec3c15f9c47e1dd704b754633990ff04bba79f601c5788f"), looks := false }, kinds := [], alts := [], laidByText := true, laidKinds := [.data, .data, .data], laidTests := true, laidLooks := .later }
def FindsUptoCardSaid : Prop := Claim7.holds Tryd.pinned (.plain (OpenSpec.upto findsSpec)) findsUptoCard
end Rows
end Go.Proofs.YtpiaafoaifhflaaDoor
