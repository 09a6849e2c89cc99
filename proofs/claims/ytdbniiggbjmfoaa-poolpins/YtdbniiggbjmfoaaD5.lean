/-
  Package disk: one contract a call, over pages as they stay, and writes.
-/
import Derived.Test.YtdbniiggbjmfoaaD4
namespace Go.Proofs.Ytdbniiggbjmfoaa
open Go.RowKit Go.ChangeMaps
section
variable {w : World} {o : Nat → Nat} {i p : Nat} {Ws : Wrs} {S : List ByteArray}
theorem d_len (H : IsD w o i p S Ws) :
    Calls Try.prog 25 #[.pointer (some ⟨p, 0, none⟩)] w fun e w' => e = .returned (.int .i64 (S.length : Int)) ∧ w = w' := by
  obtain ⟨m, v, H⟩ := H
  have := dlen_any H
  rwa [lay_length] at this
theorem d_read (H : IsD w o i p S Ws) (k : Nat) (s : ByteArray) (hs : S[k]? = some s) :
    Calls Try.prog 15 #[.pointer (some ⟨p, 0, none⟩), .int .i64 (k : Int)] w fun e w' => e = .returned (.tuple #[.string (readOf (rawAt Ws k s)), .int .i64 (errOf (rawAt Ws k s))]) ∧ Below w.heap.size w w' := by
  obtain ⟨m, v, H⟩ := H
  exact read_in H k (s, rawAt Ws k s) (by rw [lay_get, hs]; rfl)
theorem d_read_out (H : IsD w o i p S Ws) (x : Int) (hx : x < 0 ∨ (S.length : Int) ≤ x) :
    Calls Try.prog 15 #[.pointer (some ⟨p, 0, none⟩), .int .i64 x] w fun e w' => e = .returned (.tuple #[.string ⟨#[]⟩, .int .i64 1]) ∧ Below w.heap.size w w' := by
  obtain ⟨m, v, H⟩ := H
  exact read_out H x (by rw [lay_length]; exact hx)
theorem d_write_arg (H : IsD w o i p S Ws) (x : Int) (hx : x < 0 ∨ (S.length : Int) ≤ x) (s : ByteArray) :
    Calls Try.prog 45 #[.pointer (some ⟨p, 0, none⟩), .int .i64 x, .string s] w fun e w' => e = .returned (.int .i64 1) ∧ Below w.heap.size w w' := by
  obtain ⟨m, v, H⟩ := H
  exact write_arg' H x (by rw [lay_length]; exact hx) s
theorem d_write_big (H : IsD w o i p S Ws) (k : Nat) (hk : k < S.length) (s : ByteArray) (hs : 252 < s.size) :
    Calls Try.prog 45 #[.pointer (some ⟨p, 0, none⟩), .int .i64 (k : Int), .string s] w fun e w' => e = .returned (.int .i64 2) ∧ Below w.heap.size w w' := by
  obtain ⟨m, v, H⟩ := H
  exact write_big' H k (by rw [lay_length]; exact hk) s hs
theorem d_write (H : IsD w o i p S Ws) (k : Nat) (hk : k < S.length) (s : ByteArray) (hs : s.size ≤ 252) (hW : Ws.length ≤ 100000) :
    Calls Try.prog 45 #[.pointer (some ⟨p, 0, none⟩), .int .i64 (k : Int), .string s] w fun e w' => ∃ o', e = .returned (.int .i64 0) ∧ IsD w' o' i p S (Ws ++ [(k, pageOf s)]) ∧ Stp o i w o' w' := by
  obtain ⟨m, v, H⟩ := H
  have hs' : S[k]? = some S[k] := List.getElem?_eq_getElem hk
  refine (write_ok' H k S[k] (rawAt Ws k S[k]) (by rw [lay_get, hs']; rfl) s hs hW).mono ?_
  rintro e w' ⟨o', v', rfl, H', S'⟩
  rw [lay_write S Ws k _ _ hs'] at H'
  exact ⟨o', rfl, ⟨m, v', H'⟩, S'⟩
/-- a []int of the owner j -/
def OInts (w : World) (o : Nat → Nat) (j : Nat) (u : Value) (l : List Int) : Prop := Row w o j 3 1 u l.length (l.map (Value.int .i64))
theorem OInts.ints {w : World} {o : Nat → Nat} {j : Nat} {u : Value} {l : List Int} (h : OInts w o j u l) : IsInts w u l := isInts_of_row h.row
end
end Go.Proofs.Ytdbniiggbjmfoaa
