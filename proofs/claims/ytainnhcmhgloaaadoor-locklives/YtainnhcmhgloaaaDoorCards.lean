/-
  DERIVED. GIVEN WITH THE SEED: THE CARDS: each row of YtainnhcmhgloaaaDoorRows.lean that lists a variable, with what it lists TIED to the program's text (the seventh form; the later family's looks); each row that meets fmt, with fmt's text TOLD by the authors' own Lean function (tested against real Go, not proved from fmt's source: count such statements apart). THE CARD IS WHAT COUNTS. Prove the row's statement (the work); the ties are given (YtainnhcmhgloaaaDoorTie.lean); close each card by the builder's one call (the guide's Derived/Test/ToyasCard.lean, 'card_holds'). Laid BY PROGRAM, IN A SANDBOX (cutbox-door.mjs). By AI agents, Wed Nov 11 2026. No macro, syntax, notation, axiom, sorry.
-/
import Derived.Test.YtainnhcmhgloaaaDoorRows
import GoSem.ClaimSeven
namespace Go.Proofs.YtainnhcmhgloaaaDoor
namespace Rows

/-- THE TIED CARD OF 'budwoodlaw09.LockLives'. -/
def lockLivesCard : Claim7 := { stood := { row := lockLivesRow, standIns := [], harness := (true, "3ebe4e2b3cb8a7120cbb0a297e4826e2e943f637cb9d2927785900404ef55805"), looks := false }, kinds := [], alts := [], laidByText := true, laidKinds := [.data], laidTests := true, laidLooks := .later }
def LockLivesCardSaid : Prop := Claim7.holds Tryd.pinned (.plain (OpenSpec.ofChange lockLivesSpec)) lockLivesCard

/-- THE TIED CARD OF 'budwoodlaw09.LockTurn'. -/
def lockTurnCard : Claim7 := { stood := { row := lockTurnRow, standIns := [], harness := (true, "3ebe4e2b3cb8a7120cbb0a297e4826e2e943f637cb9d2927785900404ef55805"), looks := false }, kinds := [], alts := [], laidByText := true, laidKinds := [.data], laidTests := true, laidLooks := .later }
def LockTurnCardSaid : Prop := Claim7.holds Tryd.pinned (.plain (OpenSpec.ofChange lockTurnSpec)) lockTurnCard

/-- THE TIED CARD OF 'budwoodlaw09.LockAgain'. -/
def lockAgainCard : Claim7 := { stood := { row := lockAgainRow, standIns := [], harness := (true, "3ebe4e2b3cb8a7120cbb0a297e4826e2e943f637cb9d2927785900404ef55805"), looks := false }, kinds := [], alts := [], laidByText := true, laidKinds := [.data], laidTests := true, laidLooks := .later }
def LockAgainCardSaid : Prop := Claim7.holds Tryd.pinned (.plain (OpenSpec.ofChange lockAgainSpec)) lockAgainCard

/-- THE TIED CARD OF 'budwoodlaw09.LockDrop'. -/
def lockDropCard : Claim7 := { stood := { row := lockDropRow, standIns := [], harness := (true, "3ebe4e2b3cb8a7120cbb0a297e4826e2e943f637cb9d2927785900404ef55805"), looks := false }, kinds := [], alts := [], laidByText := true, laidKinds := [.data], laidTests := true, laidLooks := .later }
def LockDropCardSaid : Prop := Claim7.holds Tryd.pinned (.plain (OpenSpec.ofChange lockDropSpec)) lockDropCard

/-- THE SECOND FORM's CARD OF 'budwoodlaw09.LockLives'. -/
def lockLivesUptoCard : Claim7 := { stood := { row := lockLivesUptoRow, standIns := [], harness := (true, "3ebe4e2b3cb8a7120cbb0a297e4826e2e943f637cb9d2927785900404ef55805"), looks := false }, kinds := [], alts := [], laidByText := true, laidKinds := [.data], laidTests := true, laidLooks := .later }
def LockLivesUptoCardSaid : Prop := Claim7.holds Tryd.pinned (.plain (OpenSpec.upto lockLivesSpec)) lockLivesUptoCard

/-- THE SECOND FORM's CARD OF 'budwoodlaw09.LockTurn'. -/
def lockTurnUptoCard : Claim7 := { stood := { row := lockTurnUptoRow, standIns := [], harness := (true, "3ebe4e2b3cb8a7120cbb0a297e4826e2e943f637cb9d2927785900404ef55805"), looks := false }, kinds := [], alts := [], laidByText := true, laidKinds := [.data], laidTests := true, laidLooks := .later }
def LockTurnUptoCardSaid : Prop := Claim7.holds Tryd.pinned (.plain (OpenSpec.upto lockTurnSpec)) lockTurnUptoCard

/-- THE SECOND FORM's CARD OF 'budwoodlaw09.LockAgain'. -/
def lockAgainUptoCard : Claim7 := { stood := { row := lockAgainUptoRow, standIns := [], harness := (true, "3ebe4e2b3cb8a7120cbb0a297e4826e2e943f637cb9d2927785900404ef55805"), looks := false }, kinds := [], alts := [], laidByText := true, laidKinds := [.data], laidTests := true, laidLooks := .later }
def LockAgainUptoCardSaid : Prop := Claim7.holds Tryd.pinned (.plain (OpenSpec.upto lockAgainSpec)) lockAgainUptoCard

/-- THE SECOND FORM's CARD OF 'budwoodlaw09.LockDrop'. -/
def lockDropUptoCard : Claim7 := { stood := { row := lockDropUptoRow, standIns := [], harness := (true, "3ebe4e2b3cb8a7120cbb0a297e4826e2e943f637cb9d2927785900404ef55805"), looks := false }, kinds := [], alts := [], laidByText := true, laidKinds := [.data], laidTests := true, laidLooks := .later }
def LockDropUptoCardSaid : Prop := Claim7.holds Tryd.pinned (.plain (OpenSpec.upto lockDropSpec)) lockDropUptoCard
end Rows
end Go.Proofs.YtainnhcmhgloaaaDoor
