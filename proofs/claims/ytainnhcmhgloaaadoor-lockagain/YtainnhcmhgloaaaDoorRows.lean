/-
  NARROWER THAN 'FOR EVERY INPUT', by the rows' own cells (each row's printed sentence says how): LockLives: laid · LockTurn: laid · LockAgain: laid · LockDrop: laid.
  DERIVED. THE GIVEN ROWS OF THIS SEAT. 4 by the template 'for every input the law returns true; each argument reads behind the call as it read before'; 0 by the template 'total and deterministic' (their statements: YtainnhcmhgloaaaDoorTotals.lean).
  GIVEN WITH THE SEED: the statements are not yours to turn. If you find one false, say at which input.
  Laid BY PROGRAM, IN A SANDBOX (cutbox-rows.mjs): the forced cells as the released guide's own fill.sh prints them over the translation a19405fd36a1a9a6… (all of the seat's roots in one cut). By AI agents, Wed Nov 11 2026. No macro, syntax, notation, axiom, sorry.
-/
import Derived.Test.YtainnhcmhgloaaaDoorChecked
import GoSem.Claim
import GoSem.ClaimJoined
import GoSem.ClaimMapViews
import Derived.JoinedTies
import Derived.KernelRfl
namespace Go.Proofs.YtainnhcmhgloaaaDoor
/- THE CELL 'sum', in the pinned program and in every row, IS THE sha256 OF THE DUMP (.gsa) THAT YtainnhcmhgloaaaDoorProg.lean LOADS. Nothing in Lean hashes anything: it is a label: what it is worth is what the hold of that sum in a sandbox is worth. -/
noncomputable def Tryd.pinned : Pinned := { name := "ytainnhcmhgloaaadoor", sum := "a19405fd36a1a9a62342dcdac1bfc83c2438a4e91e88d276c59a116b5331be04", checked := Tryd.checked }
namespace Rows
def none {H : Type} : Left H := { results := [], args := [] }

/- WHAT THE LISTED PACKAGE-LEVEL VARIABLES READ AS WHEN THE CALL BEGINS. Each datum BY PROGRAM (the guide's laid-datum.mjs) off the statement by which the dump's own 'gosem.cut.vars' lays the variable. In a bare row this is a premise. The card (YtainnhcmhgloaaaDoorCards.lean) ties it to the program's text. -/
def laid_budwood_mode_clashes {H : Type} : DataW H := .agg [.lit (.int .u8 0), .lit (.int .u8 80), .lit (.int .u8 120), .lit (.int .u8 84), .lit (.int .u8 126), .lit (.int .u8 116), .lit (.int .u8 126)]

/-- 'budwoodlaw09.LockLives': WHATEVER THE INPUT: true; the input reads as it did. -/
def lockLivesSpec : ChangeSpec := { name := "lockLives", fn := fun _ => fun
  | [d] => { results := [.lit (.bool true)], args := [d] }
  | _ => none }
def lockLivesRow : OpenClaim := { program := "ytainnhcmhgloaaadoor", sum := "a19405fd36a1a9a62342dcdac1bfc83c2438a4e91e88d276c59a116b5331be04", func := "budwood/budwoodlaw09.LockLives", spec := "lockLives", inPlace := ["slices.overlaps[int]"], unfollowed := true, recurses := true, named := ["budwood/mode.clashes"], apart := false, laid := [("budwood/mode.clashes", laid_budwood_mode_clashes)] }
def LockLivesSaid : Prop := lockLivesRow.holds Tryd.pinned (OpenSpec.ofChange lockLivesSpec)

/-- ITS FALSE NEIGHBOUR: 'it returns false'. Refute it at one input. -/
def lockLivesWrong : ChangeSpec := { name := "lockLives", fn := fun _ => fun
  | [d] => { results := [.lit (.bool false)], args := [d] }
  | _ => none }
def LockLivesWrongFalsely : Prop := lockLivesRow.holds Tryd.pinned (OpenSpec.ofChange lockLivesWrong)

/-- 'budwoodlaw09.LockTurn': WHATEVER THE INPUT: true; the input reads as it did. -/
def lockTurnSpec : ChangeSpec := { name := "lockTurn", fn := fun _ => fun
  | [d] => { results := [.lit (.bool true)], args := [d] }
  | _ => none }
def lockTurnRow : OpenClaim := { program := "ytainnhcmhgloaaadoor", sum := "a19405fd36a1a9a62342dcdac1bfc83c2438a4e91e88d276c59a116b5331be04", func := "budwood/budwoodlaw09.LockTurn", spec := "lockTurn", inPlace := ["slices.overlaps[int]"], unfollowed := true, recurses := true, named := ["budwood/mode.clashes"], apart := false, laid := [("budwood/mode.clashes", laid_budwood_mode_clashes)] }
def LockTurnSaid : Prop := lockTurnRow.holds Tryd.pinned (OpenSpec.ofChange lockTurnSpec)

/-- ITS FALSE NEIGHBOUR: 'it returns false'. Refute it at one input. -/
def lockTurnWrong : ChangeSpec := { name := "lockTurn", fn := fun _ => fun
  | [d] => { results := [.lit (.bool false)], args := [d] }
  | _ => none }
def LockTurnWrongFalsely : Prop := lockTurnRow.holds Tryd.pinned (OpenSpec.ofChange lockTurnWrong)

/-- 'budwoodlaw09.LockAgain': WHATEVER THE INPUT: true; the input reads as it did. -/
def lockAgainSpec : ChangeSpec := { name := "lockAgain", fn := fun _ => fun
  | [d] => { results := [.lit (.bool true)], args := [d] }
  | _ => none }
def lockAgainRow : OpenClaim := { program := "ytainnhcmhgloaaadoor", sum := "a19405fd36a1a9a62342dcdac1bfc83c2438a4e91e88d276c59a116b5331be04", func := "budwood/budwoodlaw09.LockAgain", spec := "lockAgain", inPlace := ["slices.overlaps[int]"], unfollowed := true, recurses := true, named := ["budwood/mode.clashes"], apart := false, laid := [("budwood/mode.clashes", laid_budwood_mode_clashes)] }
def LockAgainSaid : Prop := lockAgainRow.holds Tryd.pinned (OpenSpec.ofChange lockAgainSpec)

/-- ITS FALSE NEIGHBOUR: 'it returns false'. Refute it at one input. -/
def lockAgainWrong : ChangeSpec := { name := "lockAgain", fn := fun _ => fun
  | [d] => { results := [.lit (.bool false)], args := [d] }
  | _ => none }
def LockAgainWrongFalsely : Prop := lockAgainRow.holds Tryd.pinned (OpenSpec.ofChange lockAgainWrong)

/-- 'budwoodlaw09.LockDrop': WHATEVER THE INPUT: true; the input reads as it did. -/
def lockDropSpec : ChangeSpec := { name := "lockDrop", fn := fun _ => fun
  | [d1, d2] => { results := [.lit (.bool true)], args := [d1, d2] }
  | _ => none }
def lockDropRow : OpenClaim := { program := "ytainnhcmhgloaaadoor", sum := "a19405fd36a1a9a62342dcdac1bfc83c2438a4e91e88d276c59a116b5331be04", func := "budwood/budwoodlaw09.LockDrop", spec := "lockDrop", inPlace := ["slices.overlaps[int]"], unfollowed := true, recurses := true, named := ["budwood/mode.clashes"], apart := false, laid := [("budwood/mode.clashes", laid_budwood_mode_clashes)] }
def LockDropSaid : Prop := lockDropRow.holds Tryd.pinned (OpenSpec.ofChange lockDropSpec)

/-- ITS FALSE NEIGHBOUR: 'it returns false'. Refute it at one input. -/
def lockDropWrong : ChangeSpec := { name := "lockDrop", fn := fun _ => fun
  | [d1, d2] => { results := [.lit (.bool false)], args := [d1, d2] }
  | _ => none }
def LockDropWrongFalsely : Prop := lockDropRow.holds Tryd.pinned (OpenSpec.ofChange lockDropWrong)

/- THE SECOND FORM. 'bulk': how many values and letters a reading holds, each counted each time it is reached (what is shared counts as often as it is met; a slice's spare places count too). A statement '..UptoSaid' is the law's where the arguments, and the package variables that the reading takes, are together of bulk at most 1048576: NARROWER than '..Said'. Prove '..Said' where nothing that the law and all that it calls make is longer than what came in: it says more and counts as full. Else prove '..UptoSaid'. A law counts once. -/
mutual
def uptoBulk {H : Type} : DataW H → Nat
  | .lit (.string bytes) => bytes.length + 1
  | .lit _ => 1
  | .nil => 1
  | .ptr d => uptoBulk d + 1
  | .slice elems spare => uptoBulkAll elems + uptoBulkAll spare + 1
  | .agg parts => uptoBulkAll parts + 1
  | .iface _ d => uptoBulk d + 1
  | .map entries => uptoBulkEntries entries + 1
  | .held _ => 1
def uptoBulkAll {H : Type} : List (DataW H) → Nat
  | [] => 0
  | d :: r => uptoBulk d + uptoBulkAll r
def uptoBulkEntries {H : Type} : List (Lit × DataW H) → Nat
  | [] => 0
  | x :: r => uptoBulkEntry x + uptoBulkEntries r
def uptoBulkEntry {H : Type} : Lit × DataW H → Nat
  | (.string bytes, d) => bytes.length + uptoBulk d + 1
  | (_, d) => uptoBulk d + 1
 end
def uptoSmall : (H : Type) → List (DataW H) → Bool := fun _ ds => decide (uptoBulkAll ds ≤ 1048576)
def OpenSpec.upto (s : _root_.Go.ChangeSpec) : _root_.Go.OpenSpec := { _root_.Go.OpenSpec.ofChange s with cond := some uptoSmall }

/-- 'budwoodlaw09.LockLives', WHERE WHAT IT READS IS OF BULK AT MOST 1048576: true; the input reads as it did. -/
def lockLivesUptoRow : OpenClaim := { program := "ytainnhcmhgloaaadoor", sum := "a19405fd36a1a9a62342dcdac1bfc83c2438a4e91e88d276c59a116b5331be04", func := "budwood/budwoodlaw09.LockLives", spec := "lockLives", inPlace := ["slices.overlaps[int]"], unfollowed := true, recurses := true, named := ["budwood/mode.clashes"], apart := false, laid := [("budwood/mode.clashes", laid_budwood_mode_clashes)], narrowed := true }
def LockLivesUptoSaid : Prop := lockLivesUptoRow.holds Tryd.pinned (OpenSpec.upto lockLivesSpec)

/-- 'budwoodlaw09.LockTurn', WHERE WHAT IT READS IS OF BULK AT MOST 1048576: true; the input reads as it did. -/
def lockTurnUptoRow : OpenClaim := { program := "ytainnhcmhgloaaadoor", sum := "a19405fd36a1a9a62342dcdac1bfc83c2438a4e91e88d276c59a116b5331be04", func := "budwood/budwoodlaw09.LockTurn", spec := "lockTurn", inPlace := ["slices.overlaps[int]"], unfollowed := true, recurses := true, named := ["budwood/mode.clashes"], apart := false, laid := [("budwood/mode.clashes", laid_budwood_mode_clashes)], narrowed := true }
def LockTurnUptoSaid : Prop := lockTurnUptoRow.holds Tryd.pinned (OpenSpec.upto lockTurnSpec)

/-- 'budwoodlaw09.LockAgain', WHERE WHAT IT READS IS OF BULK AT MOST 1048576: true; the input reads as it did. -/
def lockAgainUptoRow : OpenClaim := { program := "ytainnhcmhgloaaadoor", sum := "a19405fd36a1a9a62342dcdac1bfc83c2438a4e91e88d276c59a116b5331be04", func := "budwood/budwoodlaw09.LockAgain", spec := "lockAgain", inPlace := ["slices.overlaps[int]"], unfollowed := true, recurses := true, named := ["budwood/mode.clashes"], apart := false, laid := [("budwood/mode.clashes", laid_budwood_mode_clashes)], narrowed := true }
def LockAgainUptoSaid : Prop := lockAgainUptoRow.holds Tryd.pinned (OpenSpec.upto lockAgainSpec)

/-- 'budwoodlaw09.LockDrop', WHERE WHAT IT READS IS OF BULK AT MOST 1048576: true; the input reads as it did. -/
def lockDropUptoRow : OpenClaim := { program := "ytainnhcmhgloaaadoor", sum := "a19405fd36a1a9a62342dcdac1bfc83c2438a4e91e88d276c59a116b5331be04", func := "budwood/budwoodlaw09.LockDrop", spec := "lockDrop", inPlace := ["slices.overlaps[int]"], unfollowed := true, recurses := true, named := ["budwood/mode.clashes"], apart := false, laid := [("budwood/mode.clashes", laid_budwood_mode_clashes)], narrowed := true }
def LockDropUptoSaid : Prop := lockDropUptoRow.holds Tryd.pinned (OpenSpec.upto lockDropSpec)

end Rows
end Go.Proofs.YtainnhcmhgloaaaDoor
