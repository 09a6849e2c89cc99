/-
  DERIVED. GIVEN WITH THE SEED: THE CARDS: each row of YtainnhcmhgloaaaGreatDoorRows.lean that lists a variable, with what it lists TIED to the program's text (the seventh form; the later family's looks); each row that meets fmt, with fmt's text TOLD by the authors' own Lean function (tested against real Go, not proved from fmt's source: count such statements apart). THE CARD IS WHAT COUNTS. Prove the row's statement (the work); the ties are given (YtainnhcmhgloaaaGreatDoorTie.lean); close each card by the builder's one call (the guide's Derived/Test/ToyasCard.lean, 'card_holds'). Laid BY PROGRAM, IN A SANDBOX (cutbox-door.mjs). By AI agents, Wed Nov 11 2026. No macro, syntax, notation, axiom, sorry.
-/
import Derived.Test.YtainnhcmhgloaaaGreatDoorRows
import GoSem.ClaimSeven
namespace Go.Proofs.YtainnhcmhgloaaaGreatDoor
namespace Rows

/-- THE TIED CARD OF 'budwoodlaw09.LockDoes'. -/
def lockDoesCard : Claim7 := { stood := { row := lockDoesRow, standIns := [], harness := (true, "2675c07114f1bf0a46e8585ab00ff275adb87099917c8879a967ae954b94f7ba"), looks := false }, kinds := [], alts := [], laidByText := true, laidKinds := [.data], laidTests := true, laidLooks := .later }
def LockDoesCardSaid : Prop := Claim7.holds Tryz.pinned (.plain (OpenSpec.ofChange lockDoesSpec)) lockDoesCard

/-- THE TIED CARD OF 'budwoodlaw09.LockFits'. -/
def lockFitsCard : Claim7 := { stood := { row := lockFitsRow, standIns := [], harness := (true, "2675c07114f1bf0a46e8585ab00ff275adb87099917c8879a967ae954b94f7ba"), looks := false }, kinds := [], alts := [], laidByText := true, laidKinds := [.data], laidTests := true, laidLooks := .later }
def LockFitsCardSaid : Prop := Claim7.holds Tryz.pinned (.plain (OpenSpec.ofChange lockFitsSpec)) lockFitsCard

/-- THE TIED CARD OF 'budwoodlaw09.LockDead'. -/
def lockDeadCard : Claim7 := { stood := { row := lockDeadRow, standIns := [], harness := (true, "2675c07114f1bf0a46e8585ab00ff275adb87099917c8879a967ae954b94f7ba"), looks := false }, kinds := [], alts := [], laidByText := true, laidKinds := [.data], laidTests := true, laidLooks := .later }
def LockDeadCardSaid : Prop := Claim7.holds Tryz.pinned (.plain (OpenSpec.ofChange lockDeadSpec)) lockDeadCard

/-- THE SECOND FORM's CARD OF 'budwoodlaw09.LockDoes'. -/
def lockDoesUptoCard : Claim7 := { stood := { row := lockDoesUptoRow, standIns := [], harness := (true, "2675c07114f1bf0a46e8585ab00ff275adb87099917c8879a967ae954b94f7ba"), looks := false }, kinds := [], alts := [], laidByText := true, laidKinds := [.data], laidTests := true, laidLooks := .later }
def LockDoesUptoCardSaid : Prop := Claim7.holds Tryz.pinned (.plain (OpenSpec.upto lockDoesSpec)) lockDoesUptoCard

/-- THE SECOND FORM's CARD OF 'budwoodlaw09.LockFits'. -/
def lockFitsUptoCard : Claim7 := { stood := { row := lockFitsUptoRow, standIns := [], harness := (true, "2675c07114f1bf0a46e8585ab00ff275adb87099917c8879a967ae954b94f7ba"), looks := false }, kinds := [], alts := [], laidByText := true, laidKinds := [.data], laidTests := true, laidLooks := .later }
def LockFitsUptoCardSaid : Prop := Claim7.holds Tryz.pinned (.plain (OpenSpec.upto lockFitsSpec)) lockFitsUptoCard

/-- THE SECOND FORM's CARD OF 'budwoodlaw09.LockDead'. -/
def lockDeadUptoCard : Claim7 := { stood := { row := lockDeadUptoRow, standIns := [], harness := (true, "2675c07114f1bf0a46e8585ab00ff275adb87099917c8879a967ae954b94f7ba"), looks := false }, kinds := [], alts := [], laidByText := true, laidKinds := [.data], laidTests := true, laidLooks := .later }
def LockDeadUptoCardSaid : Prop := Claim7.holds Tryz.pinned (.plain (OpenSpec.upto lockDeadSpec)) lockDeadUptoCard
end Rows
end Go.Proofs.YtainnhcmhgloaaaGreatDoor
