/-
  A map whose keys are 0, 1, 2 and so on, in this order: looked up, changed, added to, counted. Over any program whose types are as named.
-/
import Derived.Test.YtdbniiggbjmfoaaO1
namespace Go.Proofs.Ytdbniiggbjmfoaa
open Go.RowKit Go.ChangeMaps Go.MapKept

/-- a page as it stays, and as it stands -/
abbrev Pgs := List (ByteArray × ByteArray)
def stv (q : ByteArray × ByteArray) : Value := .agg #[.string q.1, .string q.2]
def ent (k : Nat) (q : ByteArray × ByteArray) : MapEntry := ⟨.int .i64 (k : Int), stv q, k⟩
def ents : Nat → Pgs → List MapEntry
  | _, [] => []
  | k, q :: l => ent k q :: ents (k + 1) l
theorem ents_length : ∀ (k : Nat) (L : Pgs), (ents k L).length = L.length
  | _, [] => rfl
  | k, _ :: l => by simp [ents, ents_length (k + 1) l]
theorem ents_get : ∀ (k : Nat) (L : Pgs) (j : Nat), (ents k L)[j]? = L[j]?.map (ent (k + j))
  | _, [], _ => by simp [ents]
  | k, q :: l, 0 => by simp [ents]
  | k, q :: l, j + 1 => by
    simp only [ents, List.getElem?_cons_succ]
    rw [ents_get (k + 1) l j, show k + 1 + j = k + (j + 1) by omega]
theorem ents_set : ∀ (k : Nat) (L : Pgs) (j : Nat) (q : ByteArray × ByteArray), j < L.length → ents k (L.set j q) = (ents k L).set j (ent (k + j) q)
  | _, [], _, _, h => by simp at h
  | k, x :: l, 0, q, _ => by simp [ents]
  | k, x :: l, j + 1, q, h => by
    simp only [List.set_cons_succ, ents]
    rw [ents_set (k + 1) l j q (by simpa using h), show k + 1 + j = k + (j + 1) by omega]
theorem ents_snoc : ∀ (k : Nat) (L : Pgs) (q : ByteArray × ByteArray), ents k (L ++ [q]) = ents k L ++ [ent (k + L.length) q]
  | _, [], _ => by simp [ents]
  | k, x :: l, q => by
    simp only [List.cons_append, ents, List.length_cons]
    rw [ents_snoc (k + 1) l q, show k + 1 + l.length = k + (l.length + 1) by omega]
theorem find_hit : ∀ (b k : Nat) (L : Pgs) (j : Nat) (q : ByteArray × ByteArray), L[j]? = some q → Instr.findNow (.int .i64) (.int .i64 ((k + j : Nat) : Int)) (ents k L) b = some (some (b + j, stv q))
  | _, _, [], _, _, h => by simp at h
  | b, k, x :: l, 0, q, h => by
    simp at h; subst h
    simp [ents, Instr.findNow, Instr.sameNow, ent]
  | b, k, x :: l, j + 1, q, h => by
    have := find_hit (b + 1) (k + 1) l j q (by simpa using h)
    have e1 : (((k + (j + 1) : Nat) : Int) == (k : Int)) = false := by rw [beq_eq_false_iff_ne]; omega
    simp only [ents, Instr.findNow, Instr.sameNow, ent, if_true, e1]
    rw [show k + (j + 1) = k + 1 + j by omega, this]
    simp; omega
theorem find_miss : ∀ (b k : Nat) (L : Pgs) (x : Int), x < (k : Int) ∨ ((k + L.length : Nat) : Int) ≤ x → Instr.findNow (.int .i64) (.int .i64 x) (ents k L) b = some none
  | _, _, [], _, _ => rfl
  | b, k, q :: l, x, h => by
    have := find_miss (b + 1) (k + 1) l x (by simp at h ⊢; omega)
    have e1 : (x == (k : Int)) = false := by rw [beq_eq_false_iff_ne]; simp at h; omega
    simp only [ents, Instr.findNow, Instr.sameNow, ent, if_true, e1, this]

section
variable {P : Program} {w : World} {m : Nat} {L : Pgs} {t kt et : TypeId}
/-- block m is such a map -/
def IsMap (w : World) (m : Nat) (L : Pgs) : Prop := w.heap[m]? = some (.map (ents 0 L).toArray L.length)
theorem look_hit (c : Bool) (h : IsMap w m L) (ht : P.underlying t = some (.map kt et)) (hk : P.underlying kt = some (.int .i64)) (j : Nat) (q : ByteArray × ByteArray) (hj : L[j]? = some q) :
    (Instr.lookup t (.map (some m)) (.int .i64 (j : Int)) c).run P w = .ok (if c then .tuple #[stv q, .bool true] else stv q) w := by
  have f := find_hit 0 0 L j q hj
  rw [Nat.zero_add] at f
  simp [Instr.lookup, run_underlying ht, MapKept.run_getObj_map h, run_checkKey hk (show IsKey (.int .i64) (.int .i64 (j : Int)) from rfl), run_findKey hk f, Result.andThen]
theorem look_miss (c : Bool) (h : IsMap w m L) (ht : P.underlying t = some (.map kt et)) (hk : P.underlying kt = some (.int .i64)) {z : Value} (hz : (zeroValue et).run P w = .ok z w) (x : Int) (hx : x < 0 ∨ (L.length : Int) ≤ x) :
    (Instr.lookup t (.map (some m)) (.int .i64 x) c).run P w = .ok (if c then .tuple #[z, .bool false] else z) w := by
  have f := find_miss 0 0 L x (by simpa using hx)
  simp [Instr.lookup, run_underlying ht, MapKept.run_getObj_map h, run_checkKey hk (show IsKey (.int .i64) (.int .i64 x) from rfl), run_findKey hk f, hz, Result.andThen]
theorem toArray_modify_set (l : List MapEntry) (j : Nat) (f : MapEntry → MapEntry) (y : MapEntry) (h : l[j]? = some y) : l.toArray.modify j f = (l.set j (f y)).toArray := by
  apply Array.ext_getElem?
  intro k
  rw [Array.getElem?_modify]
  simp only [List.getElem?_toArray, List.getElem?_set]
  by_cases hk : j = k
  · subst hk; simp [h]; exact (List.getElem?_eq_some_iff.1 h).1
  · simp [hk]
/-- m[j] = q, where j is there -/
theorem put_hit (h : IsMap w m L) (ht : P.underlying t = some (.map kt et)) (hk : P.underlying kt = some (.int .i64)) (j : Nat) (q : ByteArray × ByteArray) (hj : j < L.length) :
    (Instr.mapUpdate t (.map (some m)) (.int .i64 (j : Int)) (stv q)).run P w = .ok () (setBlock w m (.map (ents 0 (L.set j q)).toArray L.length)) := by
  have f := find_hit 0 0 L j L[j] (List.getElem?_eq_getElem hj)
  rw [Nat.zero_add] at f
  have g : (ents 0 L).toArray[j]?.map (·.key) = some (.int .i64 (j : Int)) := by
    simp [ents_get, List.getElem?_eq_getElem hj, ent]
  have e2 := toArray_modify_set (ents 0 L) j (fun e => { e with key := .int .i64 (j : Int), val := stv q }) (ent j L[j]) (by rw [ents_get, List.getElem?_eq_getElem hj]; simp)
  have e3 : (ents 0 L).set j { ent j L[j] with key := .int .i64 (j : Int), val := stv q } = ents 0 (L.set j q) := by rw [ents_set 0 L j q hj, Nat.zero_add]; rfl
  simp only [e3, List.modify_toArray] at e2
  simp [Instr.mapUpdate, run_underlying ht, MapKept.run_getObj_map h, run_checkKey hk (show IsKey (.int .i64) (.int .i64 (j : Int)) from rfl), run_findKey hk f, Result.andThen]
  have e4 : ((Option.map (fun x => x.key) (ents 0 L)[j]?).getD (.int .i64 (j : Int))) = .int .i64 (j : Int) := by rw [ents_get, List.getElem?_eq_getElem hj]; simp [ent]
  rw [e4, run_keyThatStays (show IsKey (.int .i64) (.int .i64 (j : Int)) from rfl)]
  simp only
  rw [MapKept.run_setObj_map _ h, e2]
  rfl
/-- m[n] = q, where n is the next one -/
theorem put_new (h : IsMap w m L) (ht : P.underlying t = some (.map kt et)) (hk : P.underlying kt = some (.int .i64)) (q : ByteArray × ByteArray) :
    (Instr.mapUpdate t (.map (some m)) (.int .i64 (L.length : Int)) (stv q)).run P w = .ok () (setBlock w m (.map (ents 0 (L ++ [q])).toArray (L ++ [q]).length)) := by
  have f := find_miss 0 0 L (L.length : Int) (by simp)
  simp [Instr.mapUpdate, run_underlying ht, MapKept.run_getObj_map h, run_checkKey hk (show IsKey (.int .i64) (.int .i64 (L.length : Int)) from rfl), run_findKey hk f, Result.andThen]
  rw [MapKept.run_setObj_map _ h, ents_snoc]
  simp [setBlock, ent]
theorem len_map (h : IsMap w m L) (ht : P.underlying t = some (.map kt et)) (ty : TypeId) : (Builtin.len_ #[t] ty #[.map (some m)]).run P w = .ok (.int .i64 (L.length : Int)) w := by
  simp [Builtin.len_, run_underlying ht, MapKept.run_getObj_map h, goInt, Result.andThen, ents_length]
theorem isMap_set (h : IsMap w m L) (L' : Pgs) : IsMap (setBlock w m (.map (ents 0 L').toArray L'.length)) m L' := heap_setBlock_same h _
theorem isMap_put (h : IsMap w m L) (j : Nat) (q : ByteArray × ByteArray) : IsMap (setBlock w m (.map (ents 0 (L.set j q)).toArray L.length)) m (L.set j q) := by
  have := isMap_set h (L.set j q); rwa [List.length_set] at this
theorem stp_setBlock (h : IsMap w m L) (x : Obj) (o : Nat → Nat) (i : Nat) (ho : o m = i) : Stp o i w o (setBlock w m x) :=
  ⟨rfl, rfl, rfl, by simp [setBlock], fun k _ hne => heap_setBlock_other h _ (fun e => hne (by rw [e]; exact ho)), fun _ _ => rfl⟩
end
end Go.Proofs.Ytdbniiggbjmfoaa
