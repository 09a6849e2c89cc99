/-
  Package disk: one contract a call, over pages as they stay, and writes.
-/
import Derived.Test.YtbenaagooankbaaD4
namespace Go.Proofs.Ytbenaagooankbaa
open Go.RowKit Go.ChangeMaps
section
variable {w : World} {o : Nat → Nat} {i p : Nat} {Ws : Wrs} {S : List ByteArray}
theorem d_len (H : IsD w o i p S Ws) :
    Calls Try.prog 15 #[.pointer (some ⟨p, 0, none⟩)] w fun e w' => e = .returned (.int .i64 (S.length : Int)) ∧ w = w' := by
  obtain ⟨m, v, H⟩ := H
  have := dlen_any H
  rwa [lay_length] at this
theorem d_raw (H : IsD w o i p S Ws) (k : Nat) (s : ByteArray) (hs : S[k]? = some s) :
    Calls Try.prog 18 #[.pointer (some ⟨p, 0, none⟩), .int .i64 (k : Int)] w fun e w' => e = .returned (.string (rawAt Ws k s)) ∧ Below w.heap.size w w' := by
  obtain ⟨m, v, H⟩ := H
  exact raw_in H k (s, rawAt Ws k s) (by rw [lay_get, hs]; rfl)
theorem d_raw_out (H : IsD w o i p S Ws) (x : Int) (hx : x < 0 ∨ (S.length : Int) ≤ x) :
    Calls Try.prog 18 #[.pointer (some ⟨p, 0, none⟩), .int .i64 x] w fun e w' => e = .returned (.string ⟨#[]⟩) ∧ Below w.heap.size w w' := by
  obtain ⟨m, v, H⟩ := H
  exact raw_out H x (by rw [lay_length]; exact hx)
theorem d_read (H : IsD w o i p S Ws) (k : Nat) (s : ByteArray) (hs : S[k]? = some s) :
    Calls Try.prog 16 #[.pointer (some ⟨p, 0, none⟩), .int .i64 (k : Int)] w fun e w' => e = .returned (.tuple #[.string (readOf (rawAt Ws k s)), .int .i64 (errOf (rawAt Ws k s))]) ∧ Below w.heap.size w w' := by
  obtain ⟨m, v, H⟩ := H
  exact read_in H k (s, rawAt Ws k s) (by rw [lay_get, hs]; rfl)
theorem d_read_out (H : IsD w o i p S Ws) (x : Int) (hx : x < 0 ∨ (S.length : Int) ≤ x) :
    Calls Try.prog 16 #[.pointer (some ⟨p, 0, none⟩), .int .i64 x] w fun e w' => e = .returned (.tuple #[.string ⟨#[]⟩, .int .i64 1]) ∧ Below w.heap.size w w' := by
  obtain ⟨m, v, H⟩ := H
  exact read_out H x (by rw [lay_length]; exact hx)
theorem d_write_arg (H : IsD w o i p S Ws) (x : Int) (hx : x < 0 ∨ (S.length : Int) ≤ x) (s : ByteArray) :
    Calls Try.prog 9 #[.pointer (some ⟨p, 0, none⟩), .int .i64 x, .string s] w fun e w' => e = .returned (.int .i64 1) ∧ Below w.heap.size w w' := by
  obtain ⟨m, v, H⟩ := H
  exact write_arg' H x (by rw [lay_length]; exact hx) s
theorem d_write_big (H : IsD w o i p S Ws) (k : Nat) (hk : k < S.length) (s : ByteArray) (hs : 252 < s.size) :
    Calls Try.prog 9 #[.pointer (some ⟨p, 0, none⟩), .int .i64 (k : Int), .string s] w fun e w' => e = .returned (.int .i64 2) ∧ Below w.heap.size w w' := by
  obtain ⟨m, v, H⟩ := H
  exact write_big' H k (by rw [lay_length]; exact hk) s hs
theorem d_write (H : IsD w o i p S Ws) (k : Nat) (hk : k < S.length) (s : ByteArray) (hs : s.size ≤ 252) (hW : Ws.length ≤ 100000) :
    Calls Try.prog 9 #[.pointer (some ⟨p, 0, none⟩), .int .i64 (k : Int), .string s] w fun e w' => ∃ o', e = .returned (.int .i64 0) ∧ IsD w' o' i p S (Ws ++ [(k, pageOf s)]) ∧ Stp o i w o' w' := by
  obtain ⟨m, v, H⟩ := H
  have hs' : S[k]? = some S[k] := List.getElem?_eq_getElem hk
  refine (write_ok' H k S[k] (rawAt Ws k S[k]) (by rw [lay_get, hs']; rfl) s hs hW).mono ?_
  rintro e w' ⟨o', v', rfl, H', S'⟩
  rw [lay_write S Ws k _ _ hs'] at H'
  exact ⟨o', rfl, ⟨m, v', H'⟩, S'⟩
theorem d_sync (H : IsD w o i p S Ws) (hW : Ws.length ≤ 1000000) :
    Calls Try.prog 10 #[.pointer (some ⟨p, 0, none⟩)] w fun e w' => e = .returned (.tuple #[]) ∧ IsD w' o i p (syncOf S Ws) [] ∧ Stp o i w o w' := by
  obtain ⟨m, v, H⟩ := H
  refine (sync_any' H hW).mono ?_
  rintro e w' ⟨rfl, H', S'⟩
  rw [stl_crash] at H'
  exact ⟨rfl, ⟨m, _, H'⟩, S'⟩
theorem d_crash (H : IsD w o i p S Ws) (hW : Ws.length ≤ 1000000) (fa : Option Addr) (fl fc : Nat) (fs : List Int) (HF : FInts w o i fa fl fs) (hfl : fl ≤ 1000000) :
    Calls Try.prog 22 #[.pointer (some ⟨p, 0, none⟩), .slice fa fl fc] w fun e w' => e = .returned (.tuple #[]) ∧ IsD w' o i p (crashOf S Ws fs) [] ∧ Stp o i w o w' := by
  obtain ⟨m, v, H⟩ := H
  refine (crash_any' H hW fa fl fc fs HF hfl).mono ?_
  rintro e w' ⟨rfl, H', S'⟩
  rw [stl_crash] at H'
  exact ⟨rfl, ⟨m, _, H'⟩, S'⟩
/-- a []int of the owner j -/
def OInts (w : World) (o : Nat → Nat) (j : Nat) (u : Value) (l : List Int) : Prop := Row w o j 3 1 u l.length (l.map (Value.int .i64))
theorem OInts.ints {w : World} {o : Nat → Nat} {j : Nat} {u : Value} {l : List Int} (h : OInts w o j u l) : IsInts w u l := isInts_of_row h.row
theorem d_dirty (H : IsD w o i p S Ws) (j : Nat) (hW : Ws.length ≤ 1000000) :
    Calls Try.prog 13 #[.pointer (some ⟨p, 0, none⟩)] w fun e w' => ∃ u o', e = .returned u ∧ OInts w' o' j u (dirtyOf Ws) ∧ Stp o j w o' w' ∧ IsD w' o' i p S Ws ∧ Below w.heap.size w w' := by
  obtain ⟨m, v, H⟩ := H
  refine (dirty_any' H hW).mono ?_
  rintro e w' ⟨u, rfl, hr, hB⟩
  have H1 := H.reads hB
  have hl : ∀ k, k < w.heap.size → gives o w.heap.size j k = o k := fun k hk => gives_old hk
  have hr0 : w'.ownsRow 0 3 1 u (dirtyOf Ws).length ((dirtyOf Ws).map (Value.int .i64)) := by
    refine ⟨hr.1, ?_⟩
    rcases hr.2 with h | ⟨g, cap, cur, h1, h2, h3⟩
    · exact .inl h
    · exact .inr ⟨g, cap, cur, h1, Nat.zero_le _, h3⟩
  refine ⟨u, _, rfl, ⟨hr0, fun g hg => gives_new (hr.lt g hg).1⟩, (Stp.ofBelow hB o j).gives _ (Nat.le_refl _), ⟨m, v, ⟨H1.hp, H1.hm, ⟨H1.hv.row, fun g hg => ?_⟩, (hl p H.ltp).trans H.op, (hl m H.ltm).trans H.om, H1.n1, H1.n2, H1.sz, H1.ws⟩⟩, hB⟩
  rw [hl g (H.hv.lt hg)]; exact H.hv.own g hg
theorem d_copy (H : IsD w o i p S Ws) (j : Nat) (hW : Ws.length ≤ 1000000) :
    Calls Try.prog 7 #[.pointer (some ⟨p, 0, none⟩)] w fun e w' => ∃ q o', e = .returned (.pointer (some ⟨q, 0, none⟩)) ∧ IsD w' o' j q S Ws ∧ IsD w' o' i p S Ws ∧ Stp o j w o' w' ∧ Below w.heap.size w w' := by
  obtain ⟨m, v, H⟩ := H
  refine (copy_any' H j hW).mono ?_
  rintro e w' ⟨q, m', v', rfl, H', hB⟩
  have H1 := H.reads hB
  have hl : ∀ k, k < w.heap.size → gives o w.heap.size j k = o k := fun k hk => gives_old hk
  refine ⟨q, _, rfl, ⟨m', v', H'⟩, ⟨m, v, ⟨H1.hp, H1.hm, ⟨H1.hv.row, fun g hg => ?_⟩, (hl p H.ltp).trans H.op, (hl m H.ltm).trans H.om, H1.n1, H1.n2, H1.sz, H1.ws⟩⟩, (Stp.ofBelow hB o j).gives _ (Nat.le_refl _), hB⟩
  rw [hl g (H.hv.lt hg)]; exact H.hv.own g hg
end
end Go.Proofs.Ytbenaagooankbaa
