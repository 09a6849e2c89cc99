/-
  A map at a block, as a list of keys and values in the order in which they came: looked up, changed, added to, cut, counted, read by the library. Over any program whose types are as named.
-/
import Derived.Test.YtainnhcmhgloaaaDoorO1
import Derived.Maps.OwnSet
import Derived.Maps.RangeWalk
import Derived.Sort.KeysCollected
namespace Go.Proofs.YtainnhcmhgloaaaDoor
open Go.RowKit Go.ChangeMaps Go.MapKept Go.Maps
open Go.WideElems (Fit rd rg rd_mk rg_of)

structure MapAt (d : TypeDesc) (w : World) (m : Nat) (L : List (Value × Value)) : Prop where
  ex : ∃ (E : List MapEntry) (ck : Nat), w.heap[m]? = some (.map E.toArray ck) ∧ E.map (fun e => (e.key, e.val)) = L ∧ Stamped E.toArray ck ∧ ∀ x ∈ E, IsKey d x.key
section
variable {P : Program} {w w' : World} {m : Nat} {L : List (Value × Value)} {t kt et : TypeId} {d : TypeDesc} {k v : Value}
theorem MapAt.lt (h : MapAt d w m L) : m < w.heap.size := by
  obtain ⟨E, ck, hb, _⟩ := h.ex; exact (Array.getElem?_eq_some_iff.1 hb).1
theorem MapAt.same (h : MapAt d w m L) (hb : w'.heap[m]? = w.heap[m]?) : MapAt d w' m L := by
  obtain ⟨E, ck, h1, h2⟩ := h.ex; exact ⟨E, ck, hb.trans h1, h2⟩
theorem MapAt.nokeys (h : MapAt d w m L) : (L.map (·.1)).Nodup := by
  obtain ⟨E, ck, _, rfl, hs, _⟩ := h.ex
  rw [List.map_map]; exact hs.2.2
theorem MapAt.isKey (h : MapAt d w m L) {x : Value × Value} (hx : x ∈ L) : IsKey d x.1 := by
  obtain ⟨E, ck, _, rfl, _, hk⟩ := h.ex
  obtain ⟨e, he, rfl⟩ := List.mem_map.1 hx
  exact hk e he
theorem MapAt.notCells (h : MapAt d w m L) {cs : Array Value} {T : TypeId} {r : Nat × Nat} (hc : w.heap[m]? = some (.cells cs T r)) : False := by
  obtain ⟨E, ck, hb, _⟩ := h.ex; rw [hb] at hc; cases hc
theorem mapAt_new (d : TypeDesc) (w : World) : MapAt d (w.alloc (.map #[] 0)) w.heap.size [] :=
  ⟨[], 0, (MapKept.heap_alloc w _).1, rfl, stamped_empty 0, by simp⟩
theorem key_of_nodup {E : List MapEntry} (hn : (E.map (·.key)).Nodup) {e e' : MapEntry} (h : e ∈ E) (h' : e' ∈ E) (hk : e.key = e'.key) : e = e' := by
  induction E with
  | nil => cases h
  | cons x l ih =>
    simp only [List.map_cons, List.nodup_cons] at hn
    rcases List.mem_cons.1 h with h1 | h1 <;> rcases List.mem_cons.1 h' with h2 | h2
    · rw [h1, h2]
    · exact absurd (List.mem_map.2 ⟨e', h2, by rw [← hk, h1]⟩) hn.1
    · exact absurd (List.mem_map.2 ⟨e, h1, by rw [hk, h2]⟩) hn.1
    · exact ih hn.2 h1 h2
theorem MapAt.look (h : MapAt d w m L) (ht : P.underlying t = some (.map kt et)) (hk : P.underlying kt = some d) (hkv : (k, v) ∈ L) (c : Bool) :
    (Instr.lookup t (.map (some m)) k c).run P w = .ok (if c then .tuple #[v, .bool true] else v) w := by
  have ik := h.isKey hkv
  obtain ⟨E, ck, hb, rfl, hs, hi⟩ := h.ex
  obtain ⟨e, he, he2⟩ := List.mem_map.1 hkv
  simp only [Prod.mk.injEq] at he2
  rcases findNow_spec ik E 0 hi with ⟨_, h2⟩ | ⟨j, e', h1, h2, h3⟩
  · exact absurd he2.1 (h2 e he)
  · have : e' = e := key_of_nodup hs.2.2 (List.mem_of_getElem? h2) he (h3.trans he2.1.symm)
    rw [this, he2.2] at h1
    simp [Instr.lookup, run_underlying ht, MapKept.run_getObj_map hb, run_checkKey hk ik, run_findKey hk h1, Result.andThen]
theorem MapAt.lookNo (h : MapAt d w m L) (ht : P.underlying t = some (.map kt et)) (hk : P.underlying kt = some d) (ik : IsKey d k) (hno : ∀ x ∈ L, x.1 ≠ k) {z : Value} (hz : (zeroValue et).run P w = .ok z w) (c : Bool) :
    (Instr.lookup t (.map (some m)) k c).run P w = .ok (if c then .tuple #[z, .bool false] else z) w := by
  obtain ⟨E, ck, hb, rfl, hs, hi⟩ := h.ex
  rcases findNow_spec ik E 0 hi with ⟨h1, _⟩ | ⟨j, e', _, h2, h3⟩
  · simp [Instr.lookup, run_underlying ht, MapKept.run_getObj_map hb, run_checkKey hk ik, run_findKey hk h1, hz, Result.andThen]
  · exact absurd h3 (hno (e'.key, e'.val) (List.mem_map.2 ⟨e', List.mem_of_getElem? h2, rfl⟩))
theorem look_nil (ht : P.underlying t = some (.map kt et)) (hk : P.underlying kt = some d) (ik : IsKey d k) {z : Value} (hz : (zeroValue et).run P w = .ok z w) (c : Bool) :
    (Instr.lookup t (.map none) k c).run P w = .ok (if c then .tuple #[z, .bool false] else z) w := by
  have h1 : Instr.findNow d k [] 0 = some none := rfl
  simp [Instr.lookup, run_underlying ht, run_checkKey hk ik, run_findKey hk h1, hz, Result.andThen]
theorem MapAt.len (h : MapAt d w m L) (ht : P.underlying t = some (.map kt et)) (ty : TypeId) : (Builtin.len_ #[t] ty #[.map (some m)]).run P w = .ok (.int .i64 (L.length : Int)) w := by
  obtain ⟨E, ck, hb, rfl, _⟩ := h.ex
  simp [Builtin.len_, run_underlying ht, MapKept.run_getObj_map hb, goInt, Result.andThen]
theorem stp_setBlock9 {es : Array MapEntry} {c : Nat} (h : w.heap[m]? = some (.map es c)) (x : Obj) (o : Nat → Nat) (j : Nat) (ho : o m = j) : Stp o j w o (setBlock w m x) :=
  ⟨rfl, rfl, rfl, by simp [setBlock], fun k _ hne => heap_setBlock_other h _ (fun e => hne (by rw [e]; exact ho)), fun _ _ => rfl⟩
/-- only block m has changed -/
structure Only (m : Nat) (w w' : World) : Prop where
  os : w'.os = w.os
  tape : w'.tape = w.tape
  output : w'.output = w.output
  size : w'.heap.size = w.heap.size
  blk : ∀ k, k ≠ m → w'.heap[k]? = w.heap[k]?
theorem Only.stp {o : Nat → Nat} {j : Nat} (h : Only m w w') (ho : o m = j) : Stp o j w o w' :=
  ⟨h.os, h.tape, h.output, Nat.le_of_eq h.size.symm, fun k _ hne => h.blk k (fun e => hne (by rw [e]; exact ho)), fun _ _ => rfl⟩
theorem only_setBlock {es : Array MapEntry} {c : Nat} (h : w.heap[m]? = some (.map es c)) (x : Obj) : Only m w (setBlock w m x) :=
  ⟨rfl, rfl, rfl, by simp [setBlock], fun _ hne => heap_setBlock_other h _ hne⟩
/-- a new key -/
theorem MapAt.putNew (h : MapAt d w m L) (ht : P.underlying t = some (.map kt et)) (hk : P.underlying kt = some d) (ik : IsKey d k) (hno : ∀ x ∈ L, x.1 ≠ k) (v : Value) :
    ∃ w', (Instr.mapUpdate t (.map (some m)) k v).run P w = .ok () w' ∧ MapAt d w' m (L ++ [(k, v)]) ∧ Only m w w' := by
  obtain ⟨E, ck, hb, rfl, hs, hi⟩ := h.ex
  rcases findNow_spec ik E 0 hi with ⟨h1, hn⟩ | ⟨j, e', _, h2, h3⟩
  · refine ⟨setBlock w m (.map (E.toArray.push { key := k, val := v, born := ck }) (ck + 1)), ?_, ⟨E ++ [{ key := k, val := v, born := ck }], ck + 1, ?_, by simp, ?_, ?_⟩, only_setBlock hb _⟩
    · simp [Instr.mapUpdate, run_underlying ht, MapKept.run_getObj_map hb, run_checkKey hk ik, run_findKey hk h1, Result.andThen]
      rw [MapKept.run_setObj_map _ hb]; simp [setBlock]
    · rw [heap_setBlock_same hb]; simp
    · have := stamped_push hs (key := k) (val := v) (by simpa using hn)
      simpa using this
    · intro x hx
      rcases List.mem_append.1 hx with hx | hx
      · exact hi x hx
      · obtain rfl := List.mem_singleton.1 hx; exact ik
  · exact absurd h3 (hno (e'.key, e'.val) (List.mem_map.2 ⟨e', List.mem_of_getElem? h2, rfl⟩))
/-- a key that is there gets another value -/
theorem MapAt.put {L1 L2 : List (Value × Value)} {v0 : Value} (h : MapAt d w m (L1 ++ (k, v0) :: L2)) (ht : P.underlying t = some (.map kt et)) (hk : P.underlying kt = some d) (v : Value) :
    ∃ w', (Instr.mapUpdate t (.map (some m)) k v).run P w = .ok () w' ∧ MapAt d w' m (L1 ++ (k, v) :: L2) ∧ Only m w w' := by
  have ik := h.isKey (x := (k, v0)) (by simp)
  obtain ⟨E, ck, hb, hE, hs, hi⟩ := h.ex
  obtain ⟨E1, E2', rfl, he1, he2⟩ := List.map_eq_append_iff.1 hE
  obtain ⟨e, E2, rfl, hev, he3⟩ := List.map_eq_cons_iff.1 he2
  simp only [Prod.mk.injEq] at hev
  obtain ⟨hk1, hv1⟩ := hev
  have hj : (E1 ++ e :: E2)[E1.length]? = some e := by simp
  rcases findNow_spec ik (E1 ++ e :: E2) 0 hi with ⟨_, hn⟩ | ⟨j, e', h1, h2, h3⟩
  · exact absurd hk1 (hn e (by simp))
  · have ee : e' = e := key_of_nodup hs.2.2 (List.mem_of_getElem? h2) (by simp) (h3.trans hk1.symm)
    subst ee
    have hjl : j = E1.length := by
      have hnd : ((E1 ++ e' :: E2).map (·.key)).Nodup := hs.2.2
      have hj1 : j < (E1 ++ e' :: E2).length := (List.getElem?_eq_some_iff.1 h2).1
      refine (List.getElem?_inj (by simpa using hj1) hnd).1 ?_
      rw [List.getElem?_map, List.getElem?_map, h2, hj]
    subst hjl
    rw [Nat.zero_add] at h1
    have em : (E1 ++ e' :: E2).toArray.modify E1.length (fun x => { x with key := k, val := v }) = (E1 ++ { e' with key := k, val := v } :: E2).toArray := by
      apply Array.ext_getElem?
      intro q
      rw [Array.getElem?_modify]
      simp only [List.getElem?_toArray]
      by_cases hq : E1.length = q
      · subst hq; simp
      · rw [if_neg hq]
        rcases Nat.lt_or_ge q E1.length with hl | hl
        · rw [List.getElem?_append_left hl, List.getElem?_append_left hl]
        · rw [List.getElem?_append_right hl, List.getElem?_append_right hl]
          obtain ⟨z, hz⟩ : ∃ z, q - E1.length = z + 1 := ⟨q - E1.length - 1, by omega⟩
          rw [hz]; rfl
    refine ⟨setBlock w m (.map (E1 ++ { e' with key := k, val := v } :: E2).toArray ck), ?_, ⟨_, ck, heap_setBlock_same hb _, ?_, ?_, ?_⟩, only_setBlock hb _⟩
    · simp [Instr.mapUpdate, run_underlying ht, MapKept.run_getObj_map hb, run_checkKey hk ik, run_findKey hk h1, Result.andThen]
      rw [hk1, run_keyThatStays ik]
      simp only
      rw [MapKept.run_setObj_map _ hb]
      have em' := em
      simp only [List.modify_toArray] at em'
      simp only [em']
      rfl
    · simp [he1, he3]
    · have := stamped_modify hs E1.length (fun x => { x with key := k, val := v }) (fun _ _ => rfl) (fun x _ hx => by
        have : x = e' := by simpa using hx.symm
        rw [this]; exact hk1.symm)
      rw [em] at this; exact this
    · intro x hx
      rcases List.mem_append.1 hx with hx | hx
      · exact hi x (by simp [hx])
      · rcases List.mem_cons.1 hx with rfl | hx
        · exact ik
        · exact hi x (by simp [hx])
/-- a key goes -/
theorem MapAt.del {L1 L2 : List (Value × Value)} {v0 : Value} (h : MapAt d w m (L1 ++ (k, v0) :: L2)) (ht : P.underlying t = some (.map kt et)) (hk : P.underlying kt = some d) (ty : TypeId) :
    ∃ w', (Builtin.delete_ #[t, kt] ty #[.map (some m), k]).run P w = .ok (.tuple #[]) w' ∧ MapAt d w' m (L1 ++ L2) ∧ Only m w w' := by
  have ik := h.isKey (x := (k, v0)) (by simp)
  obtain ⟨E, ck, hb, hE, hs, hi⟩ := h.ex
  obtain ⟨E1, E2', rfl, he1, he2⟩ := List.map_eq_append_iff.1 hE
  obtain ⟨e, E2, rfl, hev, he3⟩ := List.map_eq_cons_iff.1 he2
  simp only [Prod.mk.injEq] at hev
  obtain ⟨hk1, hv1⟩ := hev
  have hj : (E1 ++ e :: E2)[E1.length]? = some e := by simp
  rcases findNow_spec ik (E1 ++ e :: E2) 0 hi with ⟨_, hn⟩ | ⟨j, e', h1, h2, h3⟩
  · exact absurd hk1 (hn e (by simp))
  · have ee : e' = e := key_of_nodup hs.2.2 (List.mem_of_getElem? h2) (by simp) (h3.trans hk1.symm)
    subst ee
    have hjl : j = E1.length := by
      have hnd : ((E1 ++ e' :: E2).map (·.key)).Nodup := hs.2.2
      have hj1 : j < (E1 ++ e' :: E2).length := (List.getElem?_eq_some_iff.1 h2).1
      refine (List.getElem?_inj (by simpa using hj1) hnd).1 ?_
      rw [List.getElem?_map, List.getElem?_map, h2, hj]
    subst hjl
    rw [Nat.zero_add] at h1
    have em : (E1 ++ e' :: E2).eraseIdx E1.length = E1 ++ E2 := by
      rw [List.eraseIdx_append_of_length_le (Nat.le_refl _)]; simp
    have sl : (E1 ++ E2).Sublist (E1 ++ e' :: E2) := List.Sublist.append_left (List.sublist_cons_self _ _) _
    refine ⟨setBlock w m (.map (E1 ++ E2).toArray ck), ?_, ⟨_, ck, heap_setBlock_same hb _, ?_, ⟨fun x hx => hs.1 x (sl.subset hx), (sl.map _).nodup hs.2.1, (sl.map _).nodup hs.2.2⟩, fun x hx => hi x (sl.subset hx)⟩, only_setBlock hb _⟩
    · simp [Builtin.delete_, run_underlying ht, MapKept.run_getObj_map hb, run_checkKey hk ik, run_findKey hk h1, Result.andThen]
      rw [MapKept.run_setObj_map _ hb, em]
      rfl
    · simp [he1, he3]
/-- a key that is not there goes -/
theorem MapAt.delNo (h : MapAt d w m L) (ht : P.underlying t = some (.map kt et)) (hk : P.underlying kt = some d) (ik : IsKey d k) (hno : ∀ x ∈ L, x.1 ≠ k) (ty : TypeId) :
    ∃ w', (Builtin.delete_ #[t, kt] ty #[.map (some m), k]).run P w = .ok (.tuple #[]) w' ∧ MapAt d w' m L ∧ Only m w w' := by
  obtain ⟨E, ck, hb, rfl, hs, hi⟩ := h.ex
  rcases findNow_spec ik E 0 hi with ⟨h1, _⟩ | ⟨j, e', _, h2, h3⟩
  · refine ⟨setBlock w m (.map E.toArray ck), ?_, ⟨E, ck, heap_setBlock_same hb _, rfl, hs, hi⟩, only_setBlock hb _⟩
    simp [Builtin.delete_, run_underlying ht, MapKept.run_getObj_map hb, run_checkKey hk ik, run_findKey hk h1, Result.andThen]
    rw [MapKept.run_setObj_map _ hb]
    rfl
  · exact absurd h3 (hno (e'.key, e'.val) (List.mem_map.2 ⟨e', List.mem_of_getElem? h2, rfl⟩))
theorem delete_nil9 (ht : P.underlying t = some (.map kt et)) (hk : P.underlying kt = some d) (ik : IsKey d k) (ty : TypeId) : (Builtin.delete_ #[t, kt] ty #[.map none, k]).run P w = .ok (.tuple #[]) w := by
  simp [Builtin.delete_, run_underlying ht, run_checkKey hk ik, Result.andThen]
/-! as the library reads it -/
theorem MapAt.owns {R : Value → Option (DataW Unit × List MemPlace)} (h : MapAt d w m L) (hl : L.length ≤ maxLen) (hkey : ∀ x ∈ L, ∃ q, keyOf P kt x.1 = some q) (hval : ∀ x ∈ L, ∃ y, R x.2 = some y) :
    ∃ D : DataW Unit, w.ownsMap P kt R m L.length D ∧ D = .map ((L.map (fun x => rg P kt R ⟨x.1, x.2, 0⟩)).foldr DataW.insert []) ∧ Maps.size D = L.length := by
  obtain ⟨E, ck, hb, rfl, hs, hi⟩ := h.ex
  refine ⟨_, ⟨E.toArray, ck, hb, ?_, by simp, rfl⟩, ?_, ?_⟩
  · refine ⟨by simpa using hl, hs, fun x hx => ?_⟩
    have hx' : x ∈ E := by simpa using hx
    obtain ⟨q, hq⟩ := hkey (x.key, x.val) (List.mem_map.2 ⟨x, hx', rfl⟩)
    obtain ⟨y, hy⟩ := hval (x.key, x.val) (List.mem_map.2 ⟨x, hx', rfl⟩)
    exact ⟨_, rd_mk hq hy⟩
  · rw [List.map_map]; rfl
  · show (List.foldr DataW.insert [] _).length = _
    rw [length_sorted]; simp
/-- what comes of a step of a range is an entry -/
theorem MapAt.ranged {R : Value → Option (DataW Unit × List MemPlace)} (hR : ∀ v v' y y', R v = some y → R v' = some y' → y.1 = y'.1 → v = v') (h : MapAt d w m L) (K : Keyed P kt) (ht : P.underlying t = some (.map kt et)) {z : Value} (hz : (zeroValue et).run P w = .ok z w) {nn : Nat} {D : DataW Unit} (hown : w.ownsMap P kt R m nn D) {key : Value} {kl : Lit} (hkey : keyOf P kt key = some kl) {v : Value} {y : DataW Unit × List MemPlace} (hv : R v = some y) (hat : ∀ zd, D.atKey kl zd = y.1) (hnn : y.1 ≠ .nil) :
    (key, v) ∈ L := by
  obtain ⟨es, clock, hb, F, _, rfl⟩ := hown
  obtain ⟨E, ck, hb2, rfl, hs, hi⟩ := h.ex
  rw [hb2] at hb
  cases hb
  rcases Maps.fit_look false K ht hz hb2 F hkey with ⟨_, _, h3⟩ | ⟨e0, y0, h1, h2, _, h4, h5, _⟩
  · exact absurd ((h3 .nil).symm.trans (hat .nil)).symm hnn
  · have he : e0 ∈ E := by simpa using h1
    have e2 := (h5 .nil).symm.trans (hat .nil)
    have := hR _ _ _ _ h4 hv e2
    exact List.mem_map.2 ⟨e0, he, by rw [h2, this]⟩
end
end Go.Proofs.YtainnhcmhgloaaaDoor
