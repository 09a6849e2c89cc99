/-
  NARROWER THAN 'FOR EVERY INPUT', by the rows' own cells (each row's printed sentence says how): LockDoes: laid · LockFits: laid · LockDead: laid.
  DERIVED. THE GIVEN ROWS OF THIS SEAT. 3 by the template 'for every input the law returns true; each argument reads behind the call as it read before'; 0 by the template 'total and deterministic' (their statements: YtainnhcmhgloaaaGreatDoorTotals.lean).
  GIVEN WITH THE SEED: the statements are not yours to turn. If you find one false, say at which input.
  Laid BY PROGRAM, IN A SANDBOX (cutbox-rows.mjs): the forced cells as the released guide's own fill.sh prints them over the translation ba0e2daab5f6ba95… (all of the seat's roots in one cut). By AI agents, Wed Nov 11 2026. No macro, syntax, notation, axiom, sorry.
-/
import Derived.Test.YtainnhcmhgloaaaGreatDoorChecked
import GoSem.Claim
import GoSem.ClaimJoined
import GoSem.ClaimMapViews
import Derived.JoinedTies
import Derived.KernelRfl
namespace Go.Proofs.YtainnhcmhgloaaaGreatDoor
/- THE CELL 'sum', in the pinned program and in every row, IS THE sha256 OF THE DUMP (.gsa) THAT YtainnhcmhgloaaaGreatDoorProg.lean LOADS. Nothing in Lean hashes anything: it is a label: what it is worth is what the hold of that sum in a sandbox is worth. -/
noncomputable def Tryz.pinned : Pinned := { name := "ytainnhcmhgloaaagreatdoor", sum := "ba0e2daab5f6ba95ef91b3ec4d685c0d261693ad4a2111cb1402b1825db64bc9", checked := Tryz.checked }
namespace Rows
def none {H : Type} : Left H := { results := [], args := [] }

/- WHAT THE LISTED PACKAGE-LEVEL VARIABLES READ AS WHEN THE CALL BEGINS. Each datum BY PROGRAM (the guide's laid-datum.mjs) off the statement by which the dump's own 'gosem.cut.vars' lays the variable. In a bare row this is a premise. The card (YtainnhcmhgloaaaGreatDoorCards.lean) ties it to the program's text. -/
def laid_budwood_mode_clashes {H : Type} : DataW H := .agg [.lit (.int .u8 0), .lit (.int .u8 80), .lit (.int .u8 120), .lit (.int .u8 84), .lit (.int .u8 126), .lit (.int .u8 116), .lit (.int .u8 126)]

/-- 'budwoodlaw09.LockDoes': WHATEVER THE INPUT: true; the input reads as it did. -/
def lockDoesSpec : ChangeSpec := { name := "lockDoes", fn := fun _ => fun
  | [d] => { results := [.lit (.bool true)], args := [d] }
  | _ => none }
def lockDoesRow : OpenClaim := { program := "ytainnhcmhgloaaagreatdoor", sum := "ba0e2daab5f6ba95ef91b3ec4d685c0d261693ad4a2111cb1402b1825db64bc9", func := "budwood/budwoodlaw09.LockDoes", spec := "lockDoes", inPlace := ["slices.overlaps[int]"], unfollowed := true, recurses := true, named := ["budwood/mode.clashes"], apart := false, laid := [("budwood/mode.clashes", laid_budwood_mode_clashes)] }
def LockDoesSaid : Prop := lockDoesRow.holds Tryz.pinned (OpenSpec.ofChange lockDoesSpec)

/-- ITS FALSE NEIGHBOUR: 'it returns false'. Refute it at one input. -/
def lockDoesWrong : ChangeSpec := { name := "lockDoes", fn := fun _ => fun
  | [d] => { results := [.lit (.bool false)], args := [d] }
  | _ => none }
def LockDoesWrongFalsely : Prop := lockDoesRow.holds Tryz.pinned (OpenSpec.ofChange lockDoesWrong)

/-- 'budwoodlaw09.LockFits': WHATEVER THE INPUT: true; the input reads as it did. -/
def lockFitsSpec : ChangeSpec := { name := "lockFits", fn := fun _ => fun
  | [d] => { results := [.lit (.bool true)], args := [d] }
  | _ => none }
def lockFitsRow : OpenClaim := { program := "ytainnhcmhgloaaagreatdoor", sum := "ba0e2daab5f6ba95ef91b3ec4d685c0d261693ad4a2111cb1402b1825db64bc9", func := "budwood/budwoodlaw09.LockFits", spec := "lockFits", inPlace := ["slices.overlaps[int]"], unfollowed := true, recurses := true, named := ["budwood/mode.clashes"], apart := false, laid := [("budwood/mode.clashes", laid_budwood_mode_clashes)] }
def LockFitsSaid : Prop := lockFitsRow.holds Tryz.pinned (OpenSpec.ofChange lockFitsSpec)

/-- ITS FALSE NEIGHBOUR: 'it returns false'. Refute it at one input. -/
def lockFitsWrong : ChangeSpec := { name := "lockFits", fn := fun _ => fun
  | [d] => { results := [.lit (.bool false)], args := [d] }
  | _ => none }
def LockFitsWrongFalsely : Prop := lockFitsRow.holds Tryz.pinned (OpenSpec.ofChange lockFitsWrong)

/-- 'budwoodlaw09.LockDead': WHATEVER THE INPUT: true; the input reads as it did. -/
def lockDeadSpec : ChangeSpec := { name := "lockDead", fn := fun _ => fun
  | [d] => { results := [.lit (.bool true)], args := [d] }
  | _ => none }
def lockDeadRow : OpenClaim := { program := "ytainnhcmhgloaaagreatdoor", sum := "ba0e2daab5f6ba95ef91b3ec4d685c0d261693ad4a2111cb1402b1825db64bc9", func := "budwood/budwoodlaw09.LockDead", spec := "lockDead", inPlace := ["slices.overlaps[int]"], unfollowed := true, recurses := true, named := ["budwood/mode.clashes"], apart := false, laid := [("budwood/mode.clashes", laid_budwood_mode_clashes)] }
def LockDeadSaid : Prop := lockDeadRow.holds Tryz.pinned (OpenSpec.ofChange lockDeadSpec)

/-- ITS FALSE NEIGHBOUR: 'it returns false'. Refute it at one input. -/
def lockDeadWrong : ChangeSpec := { name := "lockDead", fn := fun _ => fun
  | [d] => { results := [.lit (.bool false)], args := [d] }
  | _ => none }
def LockDeadWrongFalsely : Prop := lockDeadRow.holds Tryz.pinned (OpenSpec.ofChange lockDeadWrong)

/- THE SECOND FORM. 'bulk': how many values and letters a reading holds, each counted each time it is reached (what is shared counts as often as it is met; a slice's spare places count too). A statement '..UptoSaid' is the law's where the arguments, and the package variables that the reading takes, are together of bulk at most 1048576: NARROWER than '..Said'. Prove '..Said' where nothing that the law and all that it calls make is longer than what came in: it says more and counts as full. Else prove '..UptoSaid'. A law counts once. -/
mutual
def uptoBulk {H : Type} : DataW H → Nat
  | .lit (.string bytes) => bytes.length + 1
  | .lit _ => 1
  | .nil => 1
  | .ptr d => uptoBulk d + 1
  | .slice elems spare => uptoBulkAll elems + uptoBulkAll spare + 1
  | .agg parts => uptoBulkAll parts + 1
  | .iface _ d => uptoBulk d + 1
  | .map entries => uptoBulkEntries entries + 1
  | .held _ => 1
def uptoBulkAll {H : Type} : List (DataW H) → Nat
  | [] => 0
  | d :: r => uptoBulk d + uptoBulkAll r
def uptoBulkEntries {H : Type} : List (Lit × DataW H) → Nat
  | [] => 0
  | x :: r => uptoBulkEntry x + uptoBulkEntries r
def uptoBulkEntry {H : Type} : Lit × DataW H → Nat
  | (.string bytes, d) => bytes.length + uptoBulk d + 1
  | (_, d) => uptoBulk d + 1
 end
def uptoSmall : (H : Type) → List (DataW H) → Bool := fun _ ds => decide (uptoBulkAll ds ≤ 1048576)
def OpenSpec.upto (s : _root_.Go.ChangeSpec) : _root_.Go.OpenSpec := { _root_.Go.OpenSpec.ofChange s with cond := some uptoSmall }

/-- 'budwoodlaw09.LockDoes', WHERE WHAT IT READS IS OF BULK AT MOST 1048576: true; the input reads as it did. -/
def lockDoesUptoRow : OpenClaim := { program := "ytainnhcmhgloaaagreatdoor", sum := "ba0e2daab5f6ba95ef91b3ec4d685c0d261693ad4a2111cb1402b1825db64bc9", func := "budwood/budwoodlaw09.LockDoes", spec := "lockDoes", inPlace := ["slices.overlaps[int]"], unfollowed := true, recurses := true, named := ["budwood/mode.clashes"], apart := false, laid := [("budwood/mode.clashes", laid_budwood_mode_clashes)], narrowed := true }
def LockDoesUptoSaid : Prop := lockDoesUptoRow.holds Tryz.pinned (OpenSpec.upto lockDoesSpec)

/-- 'budwoodlaw09.LockFits', WHERE WHAT IT READS IS OF BULK AT MOST 1048576: true; the input reads as it did. -/
def lockFitsUptoRow : OpenClaim := { program := "ytainnhcmhgloaaagreatdoor", sum := "ba0e2daab5f6ba95ef91b3ec4d685c0d261693ad4a2111cb1402b1825db64bc9", func := "budwood/budwoodlaw09.LockFits", spec := "lockFits", inPlace := ["slices.overlaps[int]"], unfollowed := true, recurses := true, named := ["budwood/mode.clashes"], apart := false, laid := [("budwood/mode.clashes", laid_budwood_mode_clashes)], narrowed := true }
def LockFitsUptoSaid : Prop := lockFitsUptoRow.holds Tryz.pinned (OpenSpec.upto lockFitsSpec)

/-- 'budwoodlaw09.LockDead', WHERE WHAT IT READS IS OF BULK AT MOST 1048576: true; the input reads as it did. -/
def lockDeadUptoRow : OpenClaim := { program := "ytainnhcmhgloaaagreatdoor", sum := "ba0e2daab5f6ba95ef91b3ec4d685c0d261693ad4a2111cb1402b1825db64bc9", func := "budwood/budwoodlaw09.LockDead", spec := "lockDead", inPlace := ["slices.overlaps[int]"], unfollowed := true, recurses := true, named := ["budwood/mode.clashes"], apart := false, laid := [("budwood/mode.clashes", laid_budwood_mode_clashes)], narrowed := true }
def LockDeadUptoSaid : Prop := lockDeadUptoRow.holds Tryz.pinned (OpenSpec.upto lockDeadSpec)

end Rows
end Go.Proofs.YtainnhcmhgloaaaGreatDoor
