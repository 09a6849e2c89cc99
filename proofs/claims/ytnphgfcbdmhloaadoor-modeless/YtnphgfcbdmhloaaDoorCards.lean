/-
  DERIVED. GIVEN WITH THE SEED: THE CARDS: each row of YtnphgfcbdmhloaaDoorRows.lean that lists a variable, with what it lists TIED to the program's text (the seventh form; the later family's looks); each row that meets fmt, with fmt's text TOLD by the authors' own Lean function (tested against real Go, not proved from fmt's source: count such statements apart). THE CARD IS WHAT COUNTS. Prove the row's statement (the work); the ties are given (YtnphgfcbdmhloaaDoorTie.lean); close each card by the builder's one call (the guide's Derived/Test/ToyasCard.lean, 'card_holds'). Laid BY PROGRAM, IN A SANDBOX (cutbox-door.mjs). By AI agents, Wed Nov 11 2026. No macro, syntax, notation, axiom, sorry.
-/
import Derived.Test.YtnphgfcbdmhloaaDoorRows
import GoSem.ClaimSeven
namespace Go.Proofs.YtnphgfcbdmhloaaDoor
namespace Rows

/-- THE TIED CARD OF 'budwoodlaw08.ModeTells'. -/
def modeTellsCard : Claim7 := { stood := { row := modeTellsRow, standIns := [], harness := (true, "c5d8770a1ef43180135f2cd99e5d9aa05b6d9176b3018886ea096f312c74a375"), looks := false }, kinds := [], alts := [], laidByText := true, laidKinds := [.data, .data], laidTests := true, laidLooks := .later }
def ModeTellsCardSaid : Prop := Claim7.holds Tryd.pinned (.plain (OpenSpec.ofChange modeTellsSpec)) modeTellsCard

/-- THE TIED CARD OF 'budwoodlaw08.ModeFits'. -/
def modeFitsCard : Claim7 := { stood := { row := modeFitsRow, standIns := [], harness := (true, "c5d8770a1ef43180135f2cd99e5d9aa05b6d9176b3018886ea096f312c74a375"), looks := false }, kinds := [], alts := [], laidByText := true, laidKinds := [.data, .data], laidTests := true, laidLooks := .later }
def ModeFitsCardSaid : Prop := Claim7.holds Tryd.pinned (.plain (OpenSpec.ofChange modeFitsSpec)) modeFitsCard

/-- THE TIED CARD OF 'budwoodlaw08.ModeJoins'. -/
def modeJoinsCard : Claim7 := { stood := { row := modeJoinsRow, standIns := [], harness := (true, "c5d8770a1ef43180135f2cd99e5d9aa05b6d9176b3018886ea096f312c74a375"), looks := false }, kinds := [], alts := [], laidByText := true, laidKinds := [.data, .data], laidTests := true, laidLooks := .later }
def ModeJoinsCardSaid : Prop := Claim7.holds Tryd.pinned (.plain (OpenSpec.ofChange modeJoinsSpec)) modeJoinsCard

/-- THE TIED CARD OF 'budwoodlaw08.ModeNames'. -/
def modeNamesCard : Claim7 := { stood := { row := modeNamesRow, standIns := [], harness := (true, "c5d8770a1ef43180135f2cd99e5d9aa05b6d9176b3018886ea096f312c74a375"), looks := false }, kinds := [], alts := [], laidByText := true, laidKinds := [.data, .data], laidTests := true, laidLooks := .later }
def ModeNamesCardSaid : Prop := Claim7.holds Tryd.pinned (.plain (OpenSpec.ofChange modeNamesSpec)) modeNamesCard

/-- THE TIED CARD OF 'budwoodlaw08.ModeLess'. -/
def modeLessCard : Claim7 := { stood := { row := modeLessRow, standIns := [], harness := (true, "c5d8770a1ef43180135f2cd99e5d9aa05b6d9176b3018886ea096f312c74a375"), looks := false }, kinds := [], alts := [], laidByText := true, laidKinds := [.data, .data], laidTests := true, laidLooks := .later }
def ModeLessCardSaid : Prop := Claim7.holds Tryd.pinned (.plain (OpenSpec.ofChange modeLessSpec)) modeLessCard

/-- THE TIED CARD OF 'budwoodlaw08.ModeAbove'. -/
def modeAboveCard : Claim7 := { stood := { row := modeAboveRow, standIns := [], harness := (true, "c5d8770a1ef43180135f2cd99e5d9aa05b6d9176b3018886ea096f312c74a375"), looks := false }, kinds := [], alts := [], laidByText := true, laidKinds := [.data, .data], laidTests := true, laidLooks := .later }
def ModeAboveCardSaid : Prop := Claim7.holds Tryd.pinned (.plain (OpenSpec.ofChange modeAboveSpec)) modeAboveCard

/-- THE SECOND FORM's CARD OF 'budwoodlaw08.ModeTells'. -/
def modeTellsUptoCard : Claim7 := { stood := { row := modeTellsUptoRow, standIns := [], harness := (true, "c5d8770a1ef43180135f2cd99e5d9aa05b6d9176b3018886ea096f312c74a375"), looks := false }, kinds := [], alts := [], laidByText := true, laidKinds := [.data, .data], laidTests := true, laidLooks := .later }
def ModeTellsUptoCardSaid : Prop := Claim7.holds Tryd.pinned (.plain (OpenSpec.upto modeTellsSpec)) modeTellsUptoCard

/-- THE SECOND FORM's CARD OF 'budwoodlaw08.ModeFits'. -/
def modeFitsUptoCard : Claim7 := { stood := { row := modeFitsUptoRow, standIns := [], harness := (true, "c5d8770a1ef43180135f2cd99e5d9aa05b6d9176b3018886ea096f312c74a375"), looks := false }, kinds := [], alts := [], laidByText := true, laidKinds := [.data, .data], laidTests := true, laidLooks := .later }
def ModeFitsUptoCardSaid : Prop := Claim7.holds Tryd.pinned (.plain (OpenSpec.upto modeFitsSpec)) modeFitsUptoCard

/-- THE SECOND FORM's CARD OF 'budwoodlaw08.ModeJoins'. -/
def modeJoinsUptoCard : Claim7 := { stood := { row := modeJoinsUptoRow, standIns := [], harness := (true, "c5d8770a1ef43180135f2cd99e5d9aa05b6d9176b3018886ea096f312c74a375"), looks := false }, kinds := [], alts := [], laidByText := true, laidKinds := [.data, .data], laidTests := true, laidLooks := .later }
def ModeJoinsUptoCardSaid : Prop := Claim7.holds Tryd.pinned (.plain (OpenSpec.upto modeJoinsSpec)) modeJoinsUptoCard

/-- THE SECOND FORM's CARD OF 'budwoodlaw08.ModeNames'. -/
def modeNamesUptoCard : Claim7 := { stood := { row := modeNamesUptoRow, standIns := [], harness := (true, "c5d8770a1ef43180135f2cd99e5d9aa05b6d9176b3018886ea096f312c74a375"), looks := false }, kinds := [], alts := [], laidByText := true, laidKinds := [.data, .data], laidTests := true, laidLooks := .later }
def ModeNamesUptoCardSaid : Prop := Claim7.holds Tryd.pinned (.plain (OpenSpec.upto modeNamesSpec)) modeNamesUptoCard

/-- THE SECOND FORM's CARD OF 'budwoodlaw08.ModeLess'. -/
def modeLessUptoCard : Claim7 := { stood := { row := modeLessUptoRow, standIns := [], harness := (true, "c5d8770a1ef43180135f2cd99e5d9aa05b6d9176b3018886ea096f312c74a375"), looks := false }, kinds := [], alts := [], laidByText := true, laidKinds := [.data, .data], laidTests := true, laidLooks := .later }
def ModeLessUptoCardSaid : Prop := Claim7.holds Tryd.pinned (.plain (OpenSpec.upto modeLessSpec)) modeLessUptoCard

/-- THE SECOND FORM's CARD OF 'budwoodlaw08.ModeAbove'. -/
def modeAboveUptoCard : Claim7 := { stood := { row := modeAboveUptoRow, standIns := [], harness := (true, "c5d8770a1ef43180135f2cd99e5d9aa05b6d9176b3018886ea096f312c74a375"), looks := false }, kinds := [], alts := [], laidByText := true, laidKinds := [.data, .data], laidTests := true, laidLooks := .later }
def ModeAboveUptoCardSaid : Prop := Claim7.holds Tryd.pinned (.plain (OpenSpec.upto modeAboveSpec)) modeAboveUptoCard
end Rows
end Go.Proofs.YtnphgfcbdmhloaaDoor
