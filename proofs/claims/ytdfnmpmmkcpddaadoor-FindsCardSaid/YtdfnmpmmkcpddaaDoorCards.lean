/-
  DERIVED. GIVEN WITH THE SEED: THE CARDS: each row of YtdfnmpmmkcpddaaDoorRows.lean that lists a variable, with what it lists TIED to the program's text (the seventh form; the later family's looks); each row that meets fmt, with fmt's text TOLD by the authors' own Lean function (tested against real Go, not proved from fmt's source: count such statements apart). THE CARD IS WHAT COUNTS. Prove the row's statement (the work); the ties are given (YtdfnmpmmkcpddaaDoorTie.lean); close each card by the builder's one call (the guide's Derived/Test/ToyasCard.lean, 'card_holds'). Laid BY PROGRAM, IN A SANDBOX (cutbox-door.mjs). By AI agents, Wed Nov 11 2026. No macro, syntax, notation, axiom, sorry.
-/
import Derived.Test.YtdfnmpmmkcpddaaDoorRows
import GoSem.ClaimSeven
namespace Go.Proofs.YtdfnmpmmkcpddaaDoor
namespace Rows

/-- THE TIED CARD OF 'fibimagelaw.Checks'. -/
def checksCard : Claim7 := { stood := { row := checksRow, standIns := [], harness := (true, "4d810821d56ebe6b027e0047f88a378a704c311212a4efa8986e8a733a51e678"), looks := false }, kinds := [], alts := [], laidByText := true, laidKinds := [.data, .data, .data], laidTests := true, laidLooks := .later }
def ChecksCardSaid : Prop := Claim7.holds Tryd.pinned (.plain (OpenSpec.ofChange checksSpec)) checksCard

/-- THE TIED CARD OF 'fibimagelaw.Prints'. -/
def printsCard : Claim7 := { stood := { row := printsRow, standIns := [], harness := (true, "4d810821d56ebe6b027e0047f88a378a704c311212a4efa8986e8a733a51e678"), looks := false }, kinds := [], alts := [], laidByText := true, laidKinds := [.data, .data, .data], laidTests := true, laidLooks := .later }
def PrintsCardSaid : Prop := Claim7.holds Tryd.pinned (.plain (OpenSpec.ofChange printsSpec)) printsCard

/-- THE TIED CARD OF 'fibimagelaw.Finds'. -/
def findsCard : Claim7 := { stood := { row := findsRow, standIns := [], harness := (true, "4d810821d56ebe6b027e0047f88a378a704c311212a4efa8986e8a733a51e678"), looks := false }, kinds := [], alts := [], laidByText := true, laidKinds := [.data, .data, .data], laidTests := true, laidLooks := .later }
def FindsCardSaid : Prop := Claim7.holds Tryd.pinned (.plain (OpenSpec.ofChange findsSpec)) findsCard

/-- THE TIED CARD OF 'fibimagelaw.Costs'. -/
def costsCard : Claim7 := { stood := { row := costsRow, standIns := [], harness := (true, "4d810821d56ebe6b027e0047f88a378a704c311212a4efa8986e8a733a51e678"), looks := false }, kinds := [], alts := [], laidByText := true, laidKinds := [.data, .data, .data], laidTests := true, laidLooks := .later }
def CostsCardSaid : Prop := Claim7.holds Tryd.pinned (.plain (OpenSpec.ofChange costsSpec)) costsCard

/-- THE TIED CARD OF 'fibimagelaw.Deeper'. -/
def deeperCard : Claim7 := { stood := { row := deeperRow, standIns := [], harness := (true, "4d810821d56ebe6b027e0047f88a378a704c311212a4efa8986e8a733a51e678"), looks := false }, kinds := [], alts := [], laidByText := true, laidKinds := [.data, .data, .data], laidTests := true, laidLooks := .later }
def DeeperCardSaid : Prop := Claim7.holds Tryd.pinned (.plain (OpenSpec.ofChange deeperSpec)) deeperCard

/-- THE TIED CARD OF 'fibimagelaw.Loads'. -/
def loadsCard : Claim7 := { stood := { row := loadsRow, standIns := [], harness := (true, "4d810821d56ebe6b027e0047f88a378a704c311212a4efa8986e8a733a51e678"), looks := false }, kinds := [], alts := [], laidByText := true, laidKinds := [.data, .data, .data], laidTests := true, laidLooks := .later }
def LoadsCardSaid : Prop := Claim7.holds Tryd.pinned (.plain (OpenSpec.ofChange loadsSpec)) loadsCard

/-- THE TIED CARD OF 'fibimagelaw.Lookups'. -/
def lookupsCard : Claim7 := { stood := { row := lookupsRow, standIns := [], harness := (true, "4d810821d56ebe6b027e0047f88a378a704c311212a4efa8986e8a733a51e678"), looks := false }, kinds := [], alts := [], laidByText := true, laidKinds := [.data, .data, .data], laidTests := true, laidLooks := .later }
def LookupsCardSaid : Prop := Claim7.holds Tryd.pinned (.plain (OpenSpec.ofChange lookupsSpec)) lookupsCard

/-- THE TIED CARD OF 'fibimagelaw.Compiles'. -/
def compilesCard : Claim7 := { stood := { row := compilesRow, standIns := [], harness := (true, "4d810821d56ebe6b027e0047f88a378a704c311212a4efa8986e8a733a51e678"), looks := false }, kinds := [], alts := [], laidByText := true, laidKinds := [.data, .data, .data], laidTests := true, laidLooks := .later }
def CompilesCardSaid : Prop := Claim7.holds Tryd.pinned (.plain (OpenSpec.ofChange compilesSpec)) compilesCard

/-- THE TIED CARD OF 'fibimagelaw.Walked'. -/
def walkedCard : Claim7 := { stood := { row := walkedRow, standIns := [], harness := (true, "4d810821d56ebe6b027e0047f88a378a704c311212a4efa8986e8a733a51e678"), looks := false }, kinds := [], alts := [], laidByText := true, laidKinds := [.data, .data, .data], laidTests := true, laidLooks := .later }
def WalkedCardSaid : Prop := Claim7.holds Tryd.pinned (.plain (OpenSpec.ofChange walkedSpec)) walkedCard

/-- THE TIED CARD OF 'fibimagelaw.Limits'. -/
def limitsCard : Claim7 := { stood := { row := limitsRow, standIns := [], harness := (true, "4d810821d56ebe6b027e0047f88a378a704c311212a4efa8986e8a733a51e678"), looks := false }, kinds := [], alts := [], laidByText := true, laidKinds := [.data, .data, .data], laidTests := true, laidLooks := .later }
def LimitsCardSaid : Prop := Claim7.holds Tryd.pinned (.plain (OpenSpec.ofChange limitsSpec)) limitsCard

/-- THE TIED CARD OF 'fibimagelaw.Alike'. -/
def alikeCard : Claim7 := { stood := { row := alikeRow, standIns := [], harness := (true, "4d810821d56ebe6b027e0047f88a378a704c311212a4efa8986e8a733a51e678"), looks := false }, kinds := [], alts := [], laidByText := true, laidKinds := [.data, .data, .data], laidTests := true, laidLooks := .later }
def AlikeCardSaid : Prop := Claim7.holds Tryd.pinned (.plain (OpenSpec.ofChange alikeSpec)) alikeCard

/-- THE TIED CARD OF 'fibimagelaw.All'. -/
def allCard : Claim7 := { stood := { row := allRow, standIns := [], harness := (true, "4d810821d56ebe6b027e0047f88a378a704c311212a4efa8986e8a733a51e678"), looks := false }, kinds := [], alts := [], laidByText := true, laidKinds := [.data, .data, .data], laidTests := true, laidLooks := .later }
def AllCardSaid : Prop := Claim7.holds Tryd.pinned (.plain (OpenSpec.ofChange allSpec)) allCard

/-- THE SECOND FORM's CARD OF 'fibimagelaw.Checks'. -/
def checksUptoCard : Claim7 := { stood := { row := checksUptoRow, standIns := [], harness := (true, "4d810821d56ebe6b027e0047f88a378a704c311212a4efa8986e8a733a51e678"), looks := false }, kinds := [], alts := [], laidByText := true, laidKinds := [.data, .data, .data], laidTests := true, laidLooks := .later }
def ChecksUptoCardSaid : Prop := Claim7.holds Tryd.pinned (.plain (OpenSpec.upto checksSpec)) checksUptoCard

/-- THE SECOND FORM's CARD OF 'fibimagelaw.Prints'. -/
def printsUptoCard : Claim7 := { stood := { row := printsUptoRow, standIns := [], harness := (true, "4d810821d56ebe6b027e0047f88a378a704c311212a4efa8986e8a733a51e678"), looks := false }, kinds := [], alts := [], laidByText := true, laidKinds := [.data, .data, .data], laidTests := true, laidLooks := .later }
def PrintsUptoCardSaid : Prop := Claim7.holds Tryd.pinned (.plain (OpenSpec.upto printsSpec)) printsUptoCard

/-- THE SECOND FORM's CARD OF 'fibimagelaw.Finds'. -/
def findsUptoCard : Claim7 := { stood := { row := findsUptoRow, standIns := [], harness := (true, "4d810821d56ebe6b027e0047f88a378a704c311212a4efa8986e8a733a51e678"), looks := false }, kinds := [], alts := [], laidByText := true, laidKinds := [.data, .data, .data], laidTests := true, laidLooks := .later }
def FindsUptoCardSaid : Prop := Claim7.holds Tryd.pinned (.plain (OpenSpec.upto findsSpec)) findsUptoCard

/-- THE SECOND FORM's CARD OF 'fibimagelaw.Costs'. -/
def costsUptoCard : Claim7 := { stood := { row := costsUptoRow, standIns := [], harness := (true, "4d810821d56ebe6b027e0047f88a378a704c311212a4efa8986e8a733a51e678"), looks := false }, kinds := [], alts := [], laidByText := true, laidKinds := [.data, .data, .data], laidTests := true, laidLooks := .later }
def CostsUptoCardSaid : Prop := Claim7.holds Tryd.pinned (.plain (OpenSpec.upto costsSpec)) costsUptoCard

/-- THE SECOND FORM's CARD OF 'fibimagelaw.Deeper'. -/
def deeperUptoCard : Claim7 := { stood := { row := deeperUptoRow, standIns := [], harness := (true, "4d810821d56ebe6b027e0047f88a378a704c311212a4efa8986e8a733a51e678"), looks := false }, kinds := [], alts := [], laidByText := true, laidKinds := [.data, .data, .data], laidTests := true, laidLooks := .later }
def DeeperUptoCardSaid : Prop := Claim7.holds Tryd.pinned (.plain (OpenSpec.upto deeperSpec)) deeperUptoCard

/-- THE SECOND FORM's CARD OF 'fibimagelaw.Loads'. -/
def loadsUptoCard : Claim7 := { stood := { row := loadsUptoRow, standIns := [], harness := (true, "4d810821d56ebe6b027e0047f88a378a704c311212a4efa8986e8a733a51e678"), looks := false }, kinds := [], alts := [], laidByText := true, laidKinds := [.data, .data, .data], laidTests := true, laidLooks := .later }
def LoadsUptoCardSaid : Prop := Claim7.holds Tryd.pinned (.plain (OpenSpec.upto loadsSpec)) loadsUptoCard

/-- THE SECOND FORM's CARD OF 'fibimagelaw.Lookups'. -/
def lookupsUptoCard : Claim7 := { stood := { row := lookupsUptoRow, standIns := [], harness := (true, "4d810821d56ebe6b027e0047f88a378a704c311212a4efa8986e8a733a51e678"), looks := false }, kinds := [], alts := [], laidByText := true, laidKinds := [.data, .data, .data], laidTests := true, laidLooks := .later }
def LookupsUptoCardSaid : Prop := Claim7.holds Tryd.pinned (.plain (OpenSpec.upto lookupsSpec)) lookupsUptoCard

/-- THE SECOND FORM's CARD OF 'fibimagelaw.Compiles'. -/
def compilesUptoCard : Claim7 := { stood := { row := compilesUptoRow, standIns := [], harness := (true, "4d810821d56ebe6b027e0047f88a378a704c311212a4efa8986e8a733a51e678"), looks := false }, kinds := [], alts := [], laidByText := true, laidKinds := [.data, .data, .data], laidTests := true, laidLooks := .later }
def CompilesUptoCardSaid : Prop := Claim7.holds Tryd.pinned (.plain (OpenSpec.upto compilesSpec)) compilesUptoCard

/-- THE SECOND FORM's CARD OF 'fibimagelaw.Walked'. -/
def walkedUptoCard : Claim7 := { stood := { row := walkedUptoRow, standIns := [], harness := (true, "4d810821d56ebe6b027e0047f88a378a704c311212a4efa8986e8a733a51e678"), looks := false }, kinds := [], alts := [], laidByText := true, laidKinds := [.data, .data, .data], laidTests := true, laidLooks := .later }
def WalkedUptoCardSaid : Prop := Claim7.holds Tryd.pinned (.plain (OpenSpec.upto walkedSpec)) walkedUptoCard

/-- THE SECOND FORM's CARD OF 'fibimagelaw.Limits'. -/
def limitsUptoCard : Claim7 := { stood := { row := limitsUptoRow, standIns := [], harness := (true, "4d810821d56ebe6b027e0047f88a378a704c311212a4efa8986e8a733a51e678"), looks := false }, kinds := [], alts := [], laidByText := true, laidKinds := [.data, .data, .data], laidTests := true, laidLooks := .later }
def LimitsUptoCardSaid : Prop := Claim7.holds Tryd.pinned (.plain (OpenSpec.upto limitsSpec)) limitsUptoCard

/-- THE SECOND FORM's CARD OF 'fibimagelaw.Alike'. -/
def alikeUptoCard : Claim7 := { stood := { row := alikeUptoRow, standIns := [], harness := (true, "4d810821d56ebe6b027e0047f88a378a704c311212a4efa8986e8a733a51e678"), looks := false }, kinds := [], alts := [], laidByText := true, laidKinds := [.data, .data, .data], laidTests := true, laidLooks := .later }
def AlikeUptoCardSaid : Prop := Claim7.holds Tryd.pinned (.plain (OpenSpec.upto alikeSpec)) alikeUptoCard

/-- THE SECOND FORM's CARD OF 'fibimagelaw.All'. -/
def allUptoCard : Claim7 := { stood := { row := allUptoRow, standIns := [], harness := (true, "4d810821d56ebe6b027e0047f88a378a704c311212a4efa8986e8a733a51e678"), looks := false }, kinds := [], alts := [], laidByText := true, laidKinds := [.data, .data, .data], laidTests := true, laidLooks := .later }
def AllUptoCardSaid : Prop := Claim7.holds Tryd.pinned (.plain (OpenSpec.upto allSpec)) allUptoCard
end Rows
end Go.Proofs.YtdfnmpmmkcpddaaDoor
