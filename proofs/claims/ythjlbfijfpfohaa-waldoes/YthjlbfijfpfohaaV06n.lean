/-
  WalDoes: what the walk's loop holds: a log and the document's, of one plain state.
-/
import Derived.Test.YthjlbfijfpfohaaV06m
import Derived.Test.YthjlbfijfpfohaaW06x
namespace Go.Proofs.Ythjlbfijfpfohaa
open Go.RowKit Go.ChangeMaps
/-- owners: 1 the program's disk, j its log; 2 the document's disk, j + 1 its log; 5 the script -/
structure DoSt (w0 w : World) (o : Nat → Nat) (p x j ga gb m n : Nat) (S : List ByteArray) (Ws : Wrs) (L : LogP) (c : Nat) (vC : Value) (CC : List OpC) : Prop where
  Z : Since w0 o w
  K : RowO w o 5 vC CC
  G : LD w o 1 p j ga m S Ws L c
  V : VD w o 2 x (j + 1) gb S Ws L
  j10 : 10 ≤ j
  len : S.length = n
section
variable {w0 w w' w1 : World} {o o' o1 : Nat → Nat} {p x j ga gb m n : Nat} {S S' : List ByteArray} {Ws Ws' : Wrs} {L L' : LogP} {c : Nat} {vC : Value} {CC : List OpC}
theorem DoSt.reads (h : DoSt w0 w o p x j ga gb m n S Ws L c vC CC) (b : Below w.heap.size w w') : DoSt w0 w' o p x j ga gb m n S Ws L c vC CC :=
  ⟨h.Z.reads b, Row.reads h.K b, h.G.reads b, h.V.reads b, h.j10, h.len⟩
theorem DoSt.other {i : Nat} (h : DoSt w0 w o p x j ga gb m n S Ws L c vC CC) (s : Stp o i w o' w') (h1 : 5 < i) (h2 : i < 10) : DoSt w0 w' o' p x j ga gb m n S Ws L c vC CC := by
  have := h.j10
  exact ⟨h.Z.step s (by omega), Row.other h.K s (by omega), h.G.moves (Moves.of (X := fun k => k = i) rfl s) (fun e => by omega) (fun e => by omega), h.V.step s (by omega) (by omega), h.j10, h.len⟩
/-- a call on the program's side -/
theorem DoSt.prog (h : DoSt w0 w o p x j ga gb m n S Ws L c vC CC) (M : Moves (Duo6 j 1) o w o' w') : Since w0 o' w' ∧ RowO w' o' 5 vC CC ∧ VD w' o' 2 x (j + 1) gb S Ws L := by
  have := h.j10
  exact ⟨h.Z.moves M (duo_no (by omega) (by decide)), Row.moves h.K M (duo_no (by omega) (by decide)), h.V.moves M (duo_no (by omega) (by decide)) (duo_no (by omega) (by omega))⟩
/-- and the document's call behind it -/
theorem DoSt.doc (h : DoSt w0 w o p x j ga gb m n S Ws L c vC CC) (Z1 : Since w0 o1 w1) (K1 : RowO w1 o1 5 vC CC) (G1 : LD w1 o1 1 p j ga m S' Ws' L' (c + 1)) (M : Moves (Duo6 (j + 1) 2) o1 w1 o' w') (V' : VD w' o' 2 x (j + 1) gb S' Ws' L') (hl : S'.length = n) : DoSt w0 w' o' p x j ga gb m n S' Ws' L' (c + 1) vC CC := by
  have := h.j10
  exact ⟨Z1.moves M (duo_no (by omega) (by decide)), Row.moves K1 M (duo_no (by omega) (by decide)), G1.moves M (duo_no (by omega) (by decide)) (duo_no (by omega) (by omega)), V', h.j10, hl⟩
end
end Go.Proofs.Ythjlbfijfpfohaa
