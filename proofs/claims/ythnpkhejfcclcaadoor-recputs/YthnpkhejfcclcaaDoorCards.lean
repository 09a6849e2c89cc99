/-
  DERIVED. GIVEN WITH THE SEED: THE CARDS: each row of YthnpkhejfcclcaaDoorRows.lean that lists a variable, with what it lists TIED to the program's text (the seventh form; the later family's looks); each row that meets fmt, with fmt's text TOLD by the authors' own Lean function (tested against real Go, not proved from fmt's source: count such statements apart). THE CARD IS WHAT COUNTS. Prove the row's statement (the work); the ties are given (YthnpkhejfcclcaaDoorTie.lean); close each card by the builder's one call (the guide's Derived/Test/ToyasCard.lean, 'card_holds'). Laid BY PROGRAM, IN A SANDBOX (cutbox-door.mjs). By AI agents, Wed Nov 11 2026. No macro, syntax, notation, axiom, sorry.
-/
import Derived.Test.YthnpkhejfcclcaaDoorRows
import GoSem.ClaimSeven
namespace Go.Proofs.YthnpkhejfcclcaaDoor
namespace Rows

/-- THE TIED CARD OF 'budwoodlaw05.RecPuts'. -/
def recPutsCard : Claim7 := { stood := { row := recPutsRow, standIns := [], harness := (true, "0f10dd2fea39335150a0795042f55cb02534b1f12fdbf37d06c44a4529f0d1c9"), looks := false }, kinds := [], alts := [], laidByText := true, laidKinds := [.data], laidTests := true, laidLooks := .later }
def RecPutsCardSaid : Prop := Claim7.holds Tryd.pinned (.plain (OpenSpec.ofChange recPutsSpec)) recPutsCard

/-- THE TIED CARD OF 'budwoodlaw05.RecGets'. -/
def recGetsCard : Claim7 := { stood := { row := recGetsRow, standIns := [], harness := (true, "0f10dd2fea39335150a0795042f55cb02534b1f12fdbf37d06c44a4529f0d1c9"), looks := false }, kinds := [], alts := [], laidByText := true, laidKinds := [.data], laidTests := true, laidLooks := .later }
def RecGetsCardSaid : Prop := Claim7.holds Tryd.pinned (.plain (OpenSpec.ofChange recGetsSpec)) recGetsCard

/-- THE TIED CARD OF 'budwoodlaw05.RecBack'. -/
def recBackCard : Claim7 := { stood := { row := recBackRow, standIns := [], harness := (true, "0f10dd2fea39335150a0795042f55cb02534b1f12fdbf37d06c44a4529f0d1c9"), looks := false }, kinds := [], alts := [], laidByText := true, laidKinds := [.data], laidTests := true, laidLooks := .later }
def RecBackCardSaid : Prop := Claim7.holds Tryd.pinned (.plain (OpenSpec.ofChange recBackSpec)) recBackCard

/-- THE TIED CARD OF 'budwoodlaw05.RecCuts'. -/
def recCutsCard : Claim7 := { stood := { row := recCutsRow, standIns := [], harness := (true, "0f10dd2fea39335150a0795042f55cb02534b1f12fdbf37d06c44a4529f0d1c9"), looks := false }, kinds := [], alts := [], laidByText := true, laidKinds := [.data], laidTests := true, laidLooks := .later }
def RecCutsCardSaid : Prop := Claim7.holds Tryd.pinned (.plain (OpenSpec.ofChange recCutsSpec)) recCutsCard

/-- THE TIED CARD OF 'budwoodlaw05.RecKinds'. -/
def recKindsCard : Claim7 := { stood := { row := recKindsRow, standIns := [], harness := (true, "0f10dd2fea39335150a0795042f55cb02534b1f12fdbf37d06c44a4529f0d1c9"), looks := false }, kinds := [], alts := [], laidByText := true, laidKinds := [.data], laidTests := true, laidLooks := .later }
def RecKindsCardSaid : Prop := Claim7.holds Tryd.pinned (.plain (OpenSpec.ofChange recKindsSpec)) recKindsCard

/-- THE TIED CARD OF 'budwoodlaw05.RecKeys'. -/
def recKeysCard : Claim7 := { stood := { row := recKeysRow, standIns := [], harness := (true, "0f10dd2fea39335150a0795042f55cb02534b1f12fdbf37d06c44a4529f0d1c9"), looks := false }, kinds := [], alts := [], laidByText := true, laidKinds := [.data], laidTests := true, laidLooks := .later }
def RecKeysCardSaid : Prop := Claim7.holds Tryd.pinned (.plain (OpenSpec.ofChange recKeysSpec)) recKeysCard

/-- THE TIED CARD OF 'budwoodlaw05.RecOwn'. -/
def recOwnCard : Claim7 := { stood := { row := recOwnRow, standIns := [], harness := (true, "0f10dd2fea39335150a0795042f55cb02534b1f12fdbf37d06c44a4529f0d1c9"), looks := false }, kinds := [], alts := [], laidByText := true, laidKinds := [.data], laidTests := true, laidLooks := .later }
def RecOwnCardSaid : Prop := Claim7.holds Tryd.pinned (.plain (OpenSpec.ofChange recOwnSpec)) recOwnCard

/-- THE SECOND FORM's CARD OF 'budwoodlaw05.RecPuts'. -/
def recPutsUptoCard : Claim7 := { stood := { row := recPutsUptoRow, standIns := [], harness := (true, "0f10dd2fea39335150a0795042f55cb02534b1f12fdbf37d06c44a4529f0d1c9"), looks := false }, kinds := [], alts := [], laidByText := true, laidKinds := [.data], laidTests := true, laidLooks := .later }
def RecPutsUptoCardSaid : Prop := Claim7.holds Tryd.pinned (.plain (OpenSpec.upto recPutsSpec)) recPutsUptoCard

/-- THE SECOND FORM's CARD OF 'budwoodlaw05.RecGets'. -/
def recGetsUptoCard : Claim7 := { stood := { row := recGetsUptoRow, standIns := [], harness := (true, "0f10dd2fea39335150a0795042f55cb02534b1f12fdbf37d06c44a4529f0d1c9"), looks := false }, kinds := [], alts := [], laidByText := true, laidKinds := [.data], laidTests := true, laidLooks := .later }
def RecGetsUptoCardSaid : Prop := Claim7.holds Tryd.pinned (.plain (OpenSpec.upto recGetsSpec)) recGetsUptoCard

/-- THE SECOND FORM's CARD OF 'budwoodlaw05.RecBack'. -/
def recBackUptoCard : Claim7 := { stood := { row := recBackUptoRow, standIns := [], harness := (true, "0f10dd2fea39335150a0795042f55cb02534b1f12fdbf37d06c44a4529f0d1c9"), looks := false }, kinds := [], alts := [], laidByText := true, laidKinds := [.data], laidTests := true, laidLooks := .later }
def RecBackUptoCardSaid : Prop := Claim7.holds Tryd.pinned (.plain (OpenSpec.upto recBackSpec)) recBackUptoCard

/-- THE SECOND FORM's CARD OF 'budwoodlaw05.RecCuts'. -/
def recCutsUptoCard : Claim7 := { stood := { row := recCutsUptoRow, standIns := [], harness := (true, "0f10dd2fea39335150a0795042f55cb02534b1f12fdbf37d06c44a4529f0d1c9"), looks := false }, kinds := [], alts := [], laidByText := true, laidKinds := [.data], laidTests := true, laidLooks := .later }
def RecCutsUptoCardSaid : Prop := Claim7.holds Tryd.pinned (.plain (OpenSpec.upto recCutsSpec)) recCutsUptoCard

/-- THE SECOND FORM's CARD OF 'budwoodlaw05.RecKinds'. -/
def recKindsUptoCard : Claim7 := { stood := { row := recKindsUptoRow, standIns := [], harness := (true, "0f10dd2fea39335150a0795042f55cb02534b1f12fdbf37d06c44a4529f0d1c9"), looks := false }, kinds := [], alts := [], laidByText := true, laidKinds := [.data], laidTests := true, laidLooks := .later }
def RecKindsUptoCardSaid : Prop := Claim7.holds Tryd.pinned (.plain (OpenSpec.upto recKindsSpec)) recKindsUptoCard

/-- THE SECOND FORM's CARD OF 'budwoodlaw05.RecKeys'. -/
def recKeysUptoCard : Claim7 := { stood := { row := recKeysUptoRow, standIns := [], harness := (true, "0f10dd2fea39335150a0795042f55cb02534b1f12fdbf37d06c44a4529f0d1c9"), looks := false }, kinds := [], alts := [], laidByText := true, laidKinds := [.data], laidTests := true, laidLooks := .later }
def RecKeysUptoCardSaid : Prop := Claim7.holds Tryd.pinned (.plain (OpenSpec.upto recKeysSpec)) recKeysUptoCard

/-- THE SECOND FORM's CARD OF 'budwoodlaw05.RecOwn'. -/
def recOwnUptoCard : Claim7 := { stood := { row := recOwnUptoRow, standIns := [], harness := (true, "0f10dd2fea39335150a0795042f55cb02534b1f12fdbf37d06c44a4529f0d1c9"), looks := false }, kinds := [], alts := [], laidByText := true, laidKinds := [.data], laidTests := true, laidLooks := .later }
def RecOwnUptoCardSaid : Prop := Claim7.holds Tryd.pinned (.plain (OpenSpec.upto recOwnSpec)) recOwnUptoCard
end Rows
end Go.Proofs.YthnpkhejfcclcaaDoor
