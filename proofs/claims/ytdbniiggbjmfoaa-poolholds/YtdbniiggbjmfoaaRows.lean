/-
  No cell of these rows narrows 'for every input' (looked for: loops, veiled, ifaces, maps, wideKeys, modest, calm, conditions, laid).
  DERIVED. THE GIVEN ROWS OF THIS SEAT. 4 by the template 'for every input the law returns true; each argument reads behind the call as it read before'; 0 by the template 'total and deterministic' (their statements: YtdbniiggbjmfoaaTotals.lean).
  GIVEN WITH THE SEED: the statements are not yours to turn. If you find one false, say at which input.
  Laid BY PROGRAM, IN A SANDBOX (cutbox-rows.mjs): the forced cells as the released guide's own fill.sh prints them over the translation f8d8e97dd9d6fd2b… (all of the seat's roots in one cut). By AI agents, Wed Nov 11 2026. No macro, syntax, notation, axiom, sorry.
-/
import Derived.Test.YtdbniiggbjmfoaaChecked
import GoSem.Claim
import GoSem.ClaimJoined
import GoSem.ClaimMapViews
import Derived.JoinedTies
import Derived.KernelRfl
namespace Go.Proofs.Ytdbniiggbjmfoaa
/- THE CELL 'sum', in the pinned program and in every row, IS THE sha256 OF THE DUMP (.gsa) THAT YtdbniiggbjmfoaaProg.lean LOADS. Nothing in Lean hashes anything: it is a label: what it is worth is what the hold of that sum in a sandbox is worth. -/
noncomputable def Try.pinned : Pinned := { name := "ytdbniiggbjmfoaa", sum := "f8d8e97dd9d6fd2b35104b93a14c205deb21e312195d647752a434a778ba9e65", checked := Try.checked }
namespace Rows
def none {H : Type} : Left H := { results := [], args := [] }

/-- 'budwoodlaw07.PoolFirst': WHATEVER THE INPUT: true; the input reads as it did. -/
def poolFirstSpec : ChangeSpec := { name := "poolFirst", fn := fun _ => fun
  | [d1, d2] => { results := [.lit (.bool true)], args := [d1, d2] }
  | _ => none }
def poolFirstRow : OpenClaim := { program := "ytdbniiggbjmfoaa", sum := "f8d8e97dd9d6fd2b35104b93a14c205deb21e312195d647752a434a778ba9e65", func := "budwood/budwoodlaw07.PoolFirst", spec := "poolFirst", unfollowed := true, recurses := true, apart := false }
def PoolFirstSaid : Prop := poolFirstRow.holds Try.pinned (OpenSpec.ofChange poolFirstSpec)

/-- ITS FALSE NEIGHBOUR: 'it returns false'. Refute it at one input. -/
def poolFirstWrong : ChangeSpec := { name := "poolFirst", fn := fun _ => fun
  | [d1, d2] => { results := [.lit (.bool false)], args := [d1, d2] }
  | _ => none }
def PoolFirstWrongFalsely : Prop := poolFirstRow.holds Try.pinned (OpenSpec.ofChange poolFirstWrong)

/-- 'budwoodlaw07.PoolHolds': WHATEVER THE INPUT: true; the input reads as it did. -/
def poolHoldsSpec : ChangeSpec := { name := "poolHolds", fn := fun _ => fun
  | [d1, d2] => { results := [.lit (.bool true)], args := [d1, d2] }
  | _ => none }
def poolHoldsRow : OpenClaim := { program := "ytdbniiggbjmfoaa", sum := "f8d8e97dd9d6fd2b35104b93a14c205deb21e312195d647752a434a778ba9e65", func := "budwood/budwoodlaw07.PoolHolds", spec := "poolHolds", unfollowed := true, recurses := true, apart := false }
def PoolHoldsSaid : Prop := poolHoldsRow.holds Try.pinned (OpenSpec.ofChange poolHoldsSpec)

/-- ITS FALSE NEIGHBOUR: 'it returns false'. Refute it at one input. -/
def poolHoldsWrong : ChangeSpec := { name := "poolHolds", fn := fun _ => fun
  | [d1, d2] => { results := [.lit (.bool false)], args := [d1, d2] }
  | _ => none }
def PoolHoldsWrongFalsely : Prop := poolHoldsRow.holds Try.pinned (OpenSpec.ofChange poolHoldsWrong)

/-- 'budwoodlaw07.PoolClean': WHATEVER THE INPUT: true; the input reads as it did. -/
def poolCleanSpec : ChangeSpec := { name := "poolClean", fn := fun _ => fun
  | [d1, d2] => { results := [.lit (.bool true)], args := [d1, d2] }
  | _ => none }
def poolCleanRow : OpenClaim := { program := "ytdbniiggbjmfoaa", sum := "f8d8e97dd9d6fd2b35104b93a14c205deb21e312195d647752a434a778ba9e65", func := "budwood/budwoodlaw07.PoolClean", spec := "poolClean", unfollowed := true, recurses := true, apart := false }
def PoolCleanSaid : Prop := poolCleanRow.holds Try.pinned (OpenSpec.ofChange poolCleanSpec)

/-- ITS FALSE NEIGHBOUR: 'it returns false'. Refute it at one input. -/
def poolCleanWrong : ChangeSpec := { name := "poolClean", fn := fun _ => fun
  | [d1, d2] => { results := [.lit (.bool false)], args := [d1, d2] }
  | _ => none }
def PoolCleanWrongFalsely : Prop := poolCleanRow.holds Try.pinned (OpenSpec.ofChange poolCleanWrong)

/-- 'budwoodlaw07.PoolPins': WHATEVER THE INPUT: true; the input reads as it did. -/
def poolPinsSpec : ChangeSpec := { name := "poolPins", fn := fun _ => fun
  | [d1, d2] => { results := [.lit (.bool true)], args := [d1, d2] }
  | _ => none }
def poolPinsRow : OpenClaim := { program := "ytdbniiggbjmfoaa", sum := "f8d8e97dd9d6fd2b35104b93a14c205deb21e312195d647752a434a778ba9e65", func := "budwood/budwoodlaw07.PoolPins", spec := "poolPins", unfollowed := true, recurses := true, apart := false }
def PoolPinsSaid : Prop := poolPinsRow.holds Try.pinned (OpenSpec.ofChange poolPinsSpec)

/-- ITS FALSE NEIGHBOUR: 'it returns false'. Refute it at one input. -/
def poolPinsWrong : ChangeSpec := { name := "poolPins", fn := fun _ => fun
  | [d1, d2] => { results := [.lit (.bool false)], args := [d1, d2] }
  | _ => none }
def PoolPinsWrongFalsely : Prop := poolPinsRow.holds Try.pinned (OpenSpec.ofChange poolPinsWrong)

/- THE SECOND FORM. 'bulk': how many values and letters a reading holds, each counted each time it is reached (what is shared counts as often as it is met; a slice's spare places count too). A statement '..UptoSaid' is the law's where the arguments, and the package variables that the reading takes, are together of bulk at most 1048576: NARROWER than '..Said'. Prove '..Said' where nothing that the law and all that it calls make is longer than what came in: it says more and counts as full. Else prove '..UptoSaid'. A law counts once. -/
mutual
def uptoBulk {H : Type} : DataW H → Nat
  | .lit (.string bytes) => bytes.length + 1
  | .lit _ => 1
  | .nil => 1
  | .ptr d => uptoBulk d + 1
  | .slice elems spare => uptoBulkAll elems + uptoBulkAll spare + 1
  | .agg parts => uptoBulkAll parts + 1
  | .iface _ d => uptoBulk d + 1
  | .map entries => uptoBulkEntries entries + 1
  | .held _ => 1
def uptoBulkAll {H : Type} : List (DataW H) → Nat
  | [] => 0
  | d :: r => uptoBulk d + uptoBulkAll r
def uptoBulkEntries {H : Type} : List (Lit × DataW H) → Nat
  | [] => 0
  | x :: r => uptoBulkEntry x + uptoBulkEntries r
def uptoBulkEntry {H : Type} : Lit × DataW H → Nat
  | (.string bytes, d) => bytes.length + uptoBulk d + 1
  | (_, d) => uptoBulk d + 1
 end
def uptoSmall : (H : Type) → List (DataW H) → Bool := fun _ ds => decide (uptoBulkAll ds ≤ 1048576)
def OpenSpec.upto (s : _root_.Go.ChangeSpec) : _root_.Go.OpenSpec := { _root_.Go.OpenSpec.ofChange s with cond := some uptoSmall }

/-- 'budwoodlaw07.PoolFirst', WHERE WHAT IT READS IS OF BULK AT MOST 1048576: true; the input reads as it did. -/
def poolFirstUptoRow : OpenClaim := { program := "ytdbniiggbjmfoaa", sum := "f8d8e97dd9d6fd2b35104b93a14c205deb21e312195d647752a434a778ba9e65", func := "budwood/budwoodlaw07.PoolFirst", spec := "poolFirst", unfollowed := true, recurses := true, apart := false, narrowed := true }
def PoolFirstUptoSaid : Prop := poolFirstUptoRow.holds Try.pinned (OpenSpec.upto poolFirstSpec)

/-- 'budwoodlaw07.PoolHolds', WHERE WHAT IT READS IS OF BULK AT MOST 1048576: true; the input reads as it did. -/
def poolHoldsUptoRow : OpenClaim := { program := "ytdbniiggbjmfoaa", sum := "f8d8e97dd9d6fd2b35104b93a14c205deb21e312195d647752a434a778ba9e65", func := "budwood/budwoodlaw07.PoolHolds", spec := "poolHolds", unfollowed := true, recurses := true, apart := false, narrowed := true }
def PoolHoldsUptoSaid : Prop := poolHoldsUptoRow.holds Try.pinned (OpenSpec.upto poolHoldsSpec)

/-- 'budwoodlaw07.PoolClean', WHERE WHAT IT READS IS OF BULK AT MOST 1048576: true; the input reads as it did. -/
def poolCleanUptoRow : OpenClaim := { program := "ytdbniiggbjmfoaa", sum := "f8d8e97dd9d6fd2b35104b93a14c205deb21e312195d647752a434a778ba9e65", func := "budwood/budwoodlaw07.PoolClean", spec := "poolClean", unfollowed := true, recurses := true, apart := false, narrowed := true }
def PoolCleanUptoSaid : Prop := poolCleanUptoRow.holds Try.pinned (OpenSpec.upto poolCleanSpec)

/-- 'budwoodlaw07.PoolPins', WHERE WHAT IT READS IS OF BULK AT MOST 1048576: true; the input reads as it did. -/
def poolPinsUptoRow : OpenClaim := { program := "ytdbniiggbjmfoaa", sum := "f8d8e97dd9d6fd2b35104b93a14c205deb21e312195d647752a434a778ba9e65", func := "budwood/budwoodlaw07.PoolPins", spec := "poolPins", unfollowed := true, recurses := true, apart := false, narrowed := true }
def PoolPinsUptoSaid : Prop := poolPinsUptoRow.holds Try.pinned (OpenSpec.upto poolPinsSpec)

end Rows
end Go.Proofs.Ytdbniiggbjmfoaa
