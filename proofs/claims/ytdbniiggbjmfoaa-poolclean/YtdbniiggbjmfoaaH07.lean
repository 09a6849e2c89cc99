/-
  Rows of eight texts and of eight numbers that a law keeps beside a pool.
-/
import Derived.Test.YtdbniiggbjmfoaaL07c
namespace Go.Proofs.Ytdbniiggbjmfoaa
open Go.RowKit Go.MapKept

def hasV (f : Nat → ByteArray) : Array Value := ((List.range 8).map (fun k => Value.string (f k))).toArray
def heldV (f : Nat → Nat) : Array Value := ((List.range 8).map (fun k => Value.int .i64 (f k : Int))).toArray
theorem hasV_get (f : Nat → ByteArray) (k : Nat) (hk : k < 8) : (hasV f)[k]? = some (.string (f k)) := by
  unfold hasV; rw [List.getElem?_toArray, List.getElem?_map, List.getElem?_range hk]; rfl
theorem heldV_get (f : Nat → Nat) (k : Nat) (hk : k < 8) : (heldV f)[k]? = some (.int .i64 (f k : Int)) := by
  unfold heldV; rw [List.getElem?_toArray, List.getElem?_map, List.getElem?_range hk]; rfl
theorem hasV_congr {f g : Nat → ByteArray} (h : ∀ k, k < 8 → f k = g k) : hasV f = hasV g := by
  unfold hasV; congr 1
  exact List.map_congr_left (fun k hk => by rw [h k (List.mem_range.1 hk)])
theorem heldV_congr {f g : Nat → Nat} (h : ∀ k, k < 8 → f k = g k) : heldV f = heldV g := by
  unfold heldV; congr 1
  exact List.map_congr_left (fun k hk => by rw [h k (List.mem_range.1 hk)])
theorem hasV_set (f : Nat → ByteArray) (k : Nat) (v : ByteArray) : (hasV f).setIfInBounds k (.string v) = hasV (fun i => if i = k then v else f i) := by
  apply Array.ext_getElem?
  intro i
  rw [Array.getElem?_setIfInBounds]
  unfold hasV
  simp only [List.getElem?_toArray, List.getElem?_map, List.size_toArray, List.length_map, List.length_range]
  by_cases hi : i < 8
  · rw [List.getElem?_range hi]
    by_cases e : k = i
    · subst e; simp [hi]
    · simp [e, Ne.symm e]
  · rw [List.getElem?_eq_none (by simpa using hi)]
    by_cases e : k = i
    · subst e; simp [hi]
    · simp [e]
theorem heldV_set (f : Nat → Nat) (k v : Nat) : (heldV f).setIfInBounds k (.int .i64 (v : Int)) = heldV (fun i => if i = k then v else f i) := by
  apply Array.ext_getElem?
  intro i
  rw [Array.getElem?_setIfInBounds]
  unfold heldV
  simp only [List.getElem?_toArray, List.getElem?_map, List.size_toArray, List.length_map, List.length_range]
  by_cases hi : i < 8
  · rw [List.getElem?_range hi]
    by_cases e : k = i
    · subst e; simp [hi]
    · simp [e, Ne.symm e]
  · rw [List.getElem?_eq_none (by simpa using hi)]
    by_cases e : k = i
    · subst e; simp [hi]
    · simp [e]
theorem info_str7 : (Try.prog.info? 9).map (fun i => (i.zero, i.size, i.bytes)) = some (some (.string ⟨#[]⟩), 1, 16) := by kernel_rfl
theorem mk_has (W : World) : (Instr.makeSlice 44 (.int .i64 8) (.int .i64 8)).run Try.prog W = .ok (.slice (some ⟨W.heap.size, 0, none⟩) 8 8) (W.alloc (.cells (hasV (fun _ => ⟨#[]⟩)) 9)) := by
  obtain ⟨i0, hi, hz0, hz1, hz2⟩ := info_parts info_str7
  have h := run_make (P := Try.prog) W 44 9 i0 (.string ⟨#[]⟩) Try.underlying44 hi hz0 .i64 .i64 (8 : Int) (8 : Int) (by omega) (by omega) (by rw [hz2]; omega) (by omega)
  rw [hz1, show madeCells (Value.string ⟨#[]⟩).cells ((8 : Int).toNat * 1) = hasV (fun _ => ⟨#[]⟩) by kernel_rfl] at h
  exact h
theorem mk_held (W : World) : (Instr.makeSlice 45 (.int .i64 8) (.int .i64 8)).run Try.prog W = .ok (.slice (some ⟨W.heap.size, 0, none⟩) 8 8) (W.alloc (.cells (heldV (fun _ => 0)) 3)) := by
  obtain ⟨i0, hi, hz0, hz1, hz2⟩ := info_parts info_int
  have h := run_make (P := Try.prog) W 45 3 i0 (.int .i64 0) Try.underlying45 hi hz0 .i64 .i64 (8 : Int) (8 : Int) (by omega) (by omega) (by rw [hz2]; omega) (by omega)
  rw [hz1, show madeCells (Value.int .i64 0).cells ((8 : Int).toNat * 1) = heldV (fun _ => 0) by kernel_rfl] at h
  exact h
theorem two4 : ¬ Two 2 1 4 := by unfold Two; omega
/-- a pool, and the rows beside it -/
structure HoldSt (w0 w : World) (o : Nat → Nat) (pd g hb db : Nat) (S : List ByteArray) (Ws : Wrs) (p : PoolP) (c : Nat) (f : Nat → ByteArray) (h : Nat → Nat) : Prop where
  P : PD w o 1 pd 2 g S Ws p c
  Z : Since w0 o w
  H : At w hb (hasV f) 9
  D : At w db (heldV h) 3
  oh : o hb = 4
  od : o db = 4
section
variable {w0 w w' : World} {o o' : Nat → Nat} {pd g hb db c c' : Nat} {S : List ByteArray} {Ws Ws' : Wrs} {p p' : PoolP} {f : Nat → ByteArray} {h : Nat → Nat}
theorem HoldSt.ne (s : HoldSt w0 w o pd g hb db S Ws p c f h) : hb ≠ db := fun e => by
  have a := s.H; have b := s.D; unfold At at a b; rw [e, b] at a
  simp only [Option.some.injEq, Obj.cells.injEq] at a
  exact absurd a.2.1 (by decide)
theorem HoldSt.call (s : HoldSt w0 w o pd g hb db S Ws p c f h) (M : Moves (Two 2 1) o w o' w') (P' : PD w' o' 1 pd 2 g S Ws' p' c') : HoldSt w0 w' o' pd g hb db S Ws' p' c' f h :=
  ⟨P', s.Z.moves M two0, (s.H.moves s.oh M two4).1, (s.D.moves s.od M two4).1, (s.H.moves s.oh M two4).2, (s.D.moves s.od M two4).2⟩
theorem HoldSt.reads (s : HoldSt w0 w o pd g hb db S Ws p c f h) (b : Below w.heap.size w w') : HoldSt w0 w' o pd g hb db S Ws p c f h :=
  ⟨s.P.reads b, s.Z.reads b, s.H.reads b, s.D.reads b, s.oh, s.od⟩
theorem HoldSt.re {f' : Nat → ByteArray} {h' : Nat → Nat} (s : HoldSt w0 w o pd g hb db S Ws p c f h) (hf : ∀ k, k < 8 → f k = f' k) (hh : ∀ k, k < 8 → h k = h' k) : HoldSt w0 w o pd g hb db S Ws p c f' h' :=
  ⟨s.P, s.Z, by rw [← hasV_congr hf]; exact s.H, by rw [← heldV_congr hh]; exact s.D, s.oh, s.od⟩
theorem HoldSt.putH (s : HoldSt w0 w o pd g hb db S Ws p c f h) (k : Nat) (v : ByteArray) : HoldSt w0 (w.setCell ⟨hb, k, none⟩ (.string v)) o pd g hb db S Ws p c (fun i => if i = k then v else f i) h := by
  have st := Stp.setCell o 4 w hb k (.string v) s.oh
  have M : Moves (fun i => i = 4) o w o (w.setCell ⟨hb, k, none⟩ (.string v)) := Moves.of rfl st
  refine ⟨s.P.moves M (by decide) (by decide), s.Z.step st (by decide), ?_, s.D.setOther k _ s.ne, s.oh, s.od⟩
  rw [← hasV_set]; exact s.H.set k _
theorem HoldSt.putD (s : HoldSt w0 w o pd g hb db S Ws p c f h) (k v : Nat) : HoldSt w0 (w.setCell ⟨db, k, none⟩ (.int .i64 (v : Int))) o pd g hb db S Ws p c f (fun i => if i = k then v else h i) := by
  have st := Stp.setCell o 4 w db k (.int .i64 (v : Int)) s.od
  have M : Moves (fun i => i = 4) o w o (w.setCell ⟨db, k, none⟩ (.int .i64 (v : Int))) := Moves.of rfl st
  refine ⟨s.P.moves M (by decide) (by decide), s.Z.step st (by decide), s.H.setOther k _ s.ne.symm, ?_, s.oh, s.od⟩
  rw [← heldV_set]; exact s.D.set k _
/-- a call's own copy of an operation -/
theorem HoldSt.box (s : HoldSt w0 w o pd g hb db S Ws p c f h) (x : Obj) : ∃ o', HoldSt w0 (w.alloc x) o' pd g hb db S Ws p c f h ∧ o' w.heap.size = 3 := by
  have b : Below w.heap.size w (w.alloc x) := (Below.refl _ w).alloc (Nat.le_refl _) _
  have st := stp_giveNew b o 3 3
  have M : Moves (fun i => i = 3) o w (gives o w.heap.size 3) (w.alloc x) := Moves.of rfl st
  exact ⟨_, ⟨s.P.moves M (by decide) (by decide), s.Z.step st (by decide), (s.H.moves s.oh M (by decide)).1, (s.D.moves s.od M (by decide)).1, (s.H.moves s.oh M (by decide)).2, (s.D.moves s.od M (by decide)).2⟩, gives_new (Nat.le_refl _)⟩
/-- both rows, just made -/
theorem HoldSt.made (P : PD w o 1 pd 2 g S Ws p c) (Z : Since w0 o w) (b : Below w.heap.size w w') (hH : At w' hb (hasV f) 9) (hD : At w' db (heldV h) 3) (h1 : w.heap.size ≤ hb) (h2 : w.heap.size ≤ db) : ∃ o', HoldSt w0 w' o' pd g hb db S Ws p c f h := by
  have st := stp_giveNew b o 4 4
  have M : Moves (fun i => i = 4) o w (gives o w.heap.size 4) w' := Moves.of rfl st
  exact ⟨_, ⟨P.moves M (by decide) (by decide), Z.step st (by decide), hH, hD, gives_new h1, gives_new h2⟩⟩
end
end Go.Proofs.Ytdbniiggbjmfoaa
