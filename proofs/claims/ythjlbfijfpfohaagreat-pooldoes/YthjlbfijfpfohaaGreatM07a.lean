/-
  Package pool: where a pool lies in memory: its block, its map, a block a place.
-/
import Derived.Test.YthjlbfijfpfohaaGreatO7
import Derived.Test.YthjlbfijfpfohaaGreatK07a
import Derived.Maps.OwnSet
import Derived.Maps.RangeWalk
namespace Go.Proofs.YthjlbfijfpfohaaGreat
open Go.RowKit Go.ChangeMaps Go.MapKept

/-- a place, its block, its stamp in the map -/
structure En where
  a : Pl
  b : Nat
  id : Nat
def plv (a : Pl) : Array Value := #[.string a.body, .int .i64 (a.pins : Int), .int .i64 (a.pinned : Int), .int .i64 a.last, .int .i64 a.first]
def enm (e : En) : MapEntry := ⟨.int .i64 (e.a.page : Int), .pointer (some ⟨e.b, 0, none⟩), e.id⟩
def updE (E : List En) (k : Int) (f : Pl → Pl) : List En := E.map (fun e => if (e.a.page : Int) = k then { e with a := f e.a } else e)
def cutE (E : List En) (k : Int) : List En := E.filter (fun e => decide ((e.a.page : Int) ≠ k))
structure IsE (w : World) (o : Nat → Nat) (j g pd m n : Nat) (su : Int) (t : Nat) (E : List En) (ck : Nat) : Prop where
  hp : At w g #[.pointer (some ⟨pd, 0, none⟩), .int .i64 (n : Int), .map (some m), .int .i64 su, .int .i64 (t : Int)] 63
  hm : w.heap[m]? = some (.map (E.map enm).toArray ck)
  hb : ∀ e ∈ E, At w e.b (plv e.a) 74
  op : o g = j
  om : o m = j
  ob : ∀ e ∈ E, o e.b = j
  nb : (E.map (·.b)).Nodup
  nk : (E.map (·.a.page)).Nodup
  ni : (E.map (·.id)).Nodup
  nc : ∀ e ∈ E, e.id < ck
section
variable {w w' : World} {o o' : Nat → Nat} {i j g pd m n t ck : Nat} {su : Int} {E : List En}
theorem IsE.ltm (h : IsE w o j g pd m n su t E ck) : m < w.heap.size := (Array.getElem?_eq_some_iff.1 h.hm).1
theorem IsE.kept (h : IsE w o j g pd m n su t E ck) (hs : ∀ k, k < w.heap.size → o k = j → w'.heap[k]? = w.heap[k]?) (ho : ∀ k, k < w.heap.size → o' k = o k) : IsE w' o' j g pd m n su t E ck :=
  ⟨(hs g h.hp.lt h.op).trans h.hp, (hs m h.ltm h.om).trans h.hm, fun e he => (hs e.b (h.hb e he).lt (h.ob e he)).trans (h.hb e he), (ho g h.hp.lt).trans h.op, (ho m h.ltm).trans h.om, fun e he => (ho e.b (h.hb e he).lt).trans (h.ob e he), h.nb, h.nk, h.ni, h.nc⟩
theorem IsE.other (h : IsE w o j g pd m n su t E ck) (s : Stp o i w o' w') (hne : j ≠ i) : IsE w' o' j g pd m n su t E ck :=
  h.kept (fun k hk e => s.blk k hk (by rw [e]; exact hne)) s.own
theorem IsE.reads (h : IsE w o j g pd m n su t E ck) (b : Below w.heap.size w w') : IsE w' o j g pd m n su t E ck :=
  h.kept (fun k hk _ => b.block k hk) (fun _ _ => rfl)
theorem IsE.drew (h : IsE w o j g pd m n su t E ck) : IsE w.drew o j g pd m n su t E ck := ⟨h.hp, h.hm, h.hb, h.op, h.om, h.ob, h.nb, h.nk, h.ni, h.nc⟩
theorem IsE.ngm (h : IsE w o j g pd m n su t E ck) : g ≠ m := fun e => by
  have a := h.hp; have b := h.hm; unfold At at a; rw [e, b] at a; cases a
theorem IsE.ngb (h : IsE w o j g pd m n su t E ck) {e : En} (he : e ∈ E) : g ≠ e.b := fun x => by
  have a := h.hp; have b := h.hb e he; unfold At at a b; rw [x, b] at a
  simp only [Option.some.injEq, Obj.cells.injEq] at a
  exact absurd a.2.1 (by decide)
theorem IsE.nmb (h : IsE w o j g pd m n su t E ck) {e : En} (he : e ∈ E) : m ≠ e.b := fun x => by
  have a := h.hm; have b := h.hb e he; unfold At at b; rw [x, b] at a; cases a
theorem mem_updE {k : Int} {f : Pl → Pl} {e : En} (h : e ∈ updE E k f) : (e ∈ E ∧ (e.a.page : Int) ≠ k) ∨ ∃ x ∈ E, (x.a.page : Int) = k ∧ e = { x with a := f x.a } := by
  obtain ⟨b, hb, rfl⟩ := List.mem_map.1 h
  by_cases e : (b.a.page : Int) = k
  · exact .inr ⟨b, hb, e, by rw [if_pos e]⟩
  · rw [if_neg e]; exact .inl ⟨hb, e⟩
theorem updE_places (E : List En) (k : Int) (f : Pl → Pl) : (updE E k f).map (·.a) = updP (E.map (·.a)) k f := by
  unfold updE updP; rw [List.map_map, List.map_map]; congr 1; funext e; simp only [Function.comp]; split <;> rfl
theorem cutE_places (E : List En) (k : Int) : (cutE E k).map (·.a) = cutP (E.map (·.a)) k := by
  unfold cutE cutP; rw [List.filter_map]; rfl
theorem updE_field {α : Type} (E : List En) (k : Int) (f : Pl → Pl) (q : En → α) (hq : ∀ e : En, q { e with a := f e.a } = q e) : (updE E k f).map q = E.map q := by
  unfold updE; rw [List.map_map]; congr 1; funext e; simp only [Function.comp]; split
  · exact hq e
  · rfl
theorem map_inj_of_nodup {α β : Type} {q : α → β} : ∀ {l : List α}, (l.map q).Nodup → ∀ {x y : α}, x ∈ l → y ∈ l → q x = q y → x = y
  | [], _, _, _, h, _, _ => by simp at h
  | z :: l, hn, x, y, hx, hy, e => by
    simp only [List.map_cons, List.nodup_cons] at hn
    rcases List.mem_cons.1 hx with h1 | h1 <;> rcases List.mem_cons.1 hy with h2 | h2
    · rw [h1, h2]
    · exact absurd (show q z ∈ l.map q from List.mem_map.2 ⟨y, h2, by rw [← e, h1]⟩) hn.1
    · exact absurd (show q z ∈ l.map q from List.mem_map.2 ⟨x, h1, by rw [e, h2]⟩) hn.1
    · exact map_inj_of_nodup hn.2 h1 h2 e
/-- a cell of a place is written -/
theorem IsE.put (h : IsE w o j g pd m n su t E ck) {e : En} (he : e ∈ E) (c : Nat) (u : Value) (f : Pl → Pl) (hf : ∀ a : Pl, (f a).page = a.page) (hv : plv (f e.a) = (plv e.a).setIfInBounds c u) :
    IsE (w.setCell ⟨e.b, c, none⟩ u) o j g pd m n su t (updE E e.a.page f) ck := by
  have em : (updE E e.a.page f).map enm = E.map enm := updE_field E _ f enm (fun x => by simp [enm, hf])
  refine ⟨h.hp.setOther c u (h.ngb he).symm, ?_, fun x hx => ?_, h.op, h.om, fun x hx => ?_, ?_, ?_, ?_, fun x hx => ?_⟩
  · rw [em]; exact (Below.heap_setCell w ⟨e.b, c, none⟩ u m (h.nmb he)).trans h.hm
  · rcases mem_updE hx with ⟨hx, hne⟩ | ⟨y, hy, hk, rfl⟩
    · exact (h.hb x hx).setOther c u (fun eb => hne (by rw [map_inj_of_nodup h.nb he hx eb]))
    · obtain rfl : y = e := map_inj_of_nodup h.nk hy he (by have : (y.a.page : Int) = e.a.page := hk; omega)
      have := (h.hb y hy).set c u
      rw [← hv] at this; exact this
  · rcases mem_updE hx with ⟨hx, _⟩ | ⟨y, hy, _, rfl⟩
    · exact h.ob x hx
    · exact h.ob y hy
  · rw [updE_field E _ f (·.b) (fun _ => rfl)]; exact h.nb
  · rw [updE_field E _ f (·.a.page) (fun x => hf x.a)]; exact h.nk
  · rw [updE_field E _ f (·.id) (fun _ => rfl)]; exact h.ni
  · rcases mem_updE hx with ⟨hx, _⟩ | ⟨y, hy, _, rfl⟩
    · exact h.nc x hx
    · exact h.nc y hy
theorem IsE.putSure (h : IsE w o j g pd m n su t E ck) (s : Int) : IsE (w.setCell ⟨g, 3, none⟩ (.int .i64 s)) o j g pd m n s t E ck :=
  ⟨h.hp.set 3 _, (Below.heap_setCell w ⟨g, 3, none⟩ _ m h.ngm.symm).trans h.hm, fun e he => (h.hb e he).setOther 3 _ (h.ngb he), h.op, h.om, h.ob, h.nb, h.nk, h.ni, h.nc⟩
theorem IsE.putTime (h : IsE w o j g pd m n su t E ck) (s : Nat) : IsE (w.setCell ⟨g, 4, none⟩ (.int .i64 (s : Int))) o j g pd m n su s E ck :=
  ⟨h.hp.set 4 _, (Below.heap_setCell w ⟨g, 4, none⟩ _ m h.ngm.symm).trans h.hm, fun e he => (h.hb e he).setOther 4 _ (h.ngb he), h.op, h.om, h.ob, h.nb, h.nk, h.ni, h.nc⟩
/-! the map: looked up, added to, cut, counted -/
theorem ehit : ∀ (b : Nat) (E : List En) (e : En), e ∈ E → (E.map (·.a.page)).Nodup → ∃ i, E[i]? = some e ∧ Instr.findNow (.int .i64) (.int .i64 (e.a.page : Int)) (E.map enm) b = some (some (b + i, .pointer (some ⟨e.b, 0, none⟩)))
  | _, [], _, h, _ => by simp at h
  | b, x :: l, e, h, hn => by
    simp only [List.map_cons, List.nodup_cons] at hn
    by_cases ex : x.a.page = e.a.page
    · have : x = e := by
        rcases List.mem_cons.1 h with rfl | h
        · rfl
        · exact absurd (show x.a.page ∈ l.map (·.a.page) from by rw [ex]; exact List.mem_map.2 ⟨e, h, rfl⟩) hn.1
      subst this
      exact ⟨0, rfl, by simp [Instr.findNow, Instr.sameNow, enm]⟩
    · have h' : e ∈ l := by
        rcases List.mem_cons.1 h with rfl | h
        · exact absurd rfl ex
        · exact h
      obtain ⟨i, h1, h2⟩ := ehit (b + 1) l e h' hn.2
      refine ⟨i + 1, by simpa using h1, ?_⟩
      have e1 : ((e.a.page : Int) == (x.a.page : Int)) = false := by rw [beq_eq_false_iff_ne]; omega
      simp only [List.map_cons, Instr.findNow, Instr.sameNow, enm, if_true, e1]
      rw [h2]; simp; omega
theorem emiss : ∀ (b : Nat) (E : List En) (k : Int), (∀ e ∈ E, (e.a.page : Int) ≠ k) → Instr.findNow (.int .i64) (.int .i64 k) (E.map enm) b = some none
  | _, [], _, _ => rfl
  | b, x :: l, k, h => by
    have e1 : (k == (x.a.page : Int)) = false := by rw [beq_eq_false_iff_ne]; exact fun e => h x (by simp) e.symm
    simp only [List.map_cons, Instr.findNow, Instr.sameNow, enm, if_true, e1]
    have := emiss (b + 1) l k (fun e he => h e (by simp [he]))
    exact this
theorem IsE.look (h : IsE w o j g pd m n su t E ck) (c : Bool) {e : En} (he : e ∈ E) :
    (Instr.lookup 61 (.map (some m)) (.int .i64 (e.a.page : Int)) c).run Tryz.prog w = .ok (if c then .tuple #[.pointer (some ⟨e.b, 0, none⟩), .bool true] else .pointer (some ⟨e.b, 0, none⟩)) w := by
  obtain ⟨i, _, f⟩ := ehit 0 E e he h.nk
  simp [Instr.lookup, run_underlying Tryz.underlying61, MapKept.run_getObj_map h.hm, run_checkKey Tryz.underlying3 (show IsKey (.int .i64) (.int .i64 (e.a.page : Int)) from rfl), run_findKey Tryz.underlying3 f, Result.andThen]
theorem IsE.lookNo (h : IsE w o j g pd m n su t E ck) (c : Bool) (k : Int) (hk : ∀ e ∈ E, (e.a.page : Int) ≠ k) :
    (Instr.lookup 61 (.map (some m)) (.int .i64 k) c).run Tryz.prog w = .ok (if c then .tuple #[.pointer none, .bool false] else .pointer none) w := by
  have f := emiss 0 E k hk
  simp [Instr.lookup, run_underlying Tryz.underlying61, MapKept.run_getObj_map h.hm, run_checkKey Tryz.underlying3 (show IsKey (.int .i64) (.int .i64 k) from rfl), run_findKey Tryz.underlying3 f, Tryz.zeroValue72, Result.andThen]
theorem IsE.lenMap (h : IsE w o j g pd m n su t E ck) (ty : TypeId) : (Builtin.len_ #[61] ty #[.map (some m)]).run Tryz.prog w = .ok (.int .i64 (E.length : Int)) w := by
  simp [Builtin.len_, run_underlying Tryz.underlying61, MapKept.run_getObj_map h.hm, goInt, Result.andThen]
theorem stp_setBlock7 {es : Array MapEntry} {c : Nat} (h : w.heap[m]? = some (.map es c)) (x : Obj) (o : Nat → Nat) (j : Nat) (ho : o m = j) : Stp o j w o (setBlock w m x) :=
  ⟨rfl, rfl, rfl, by simp [setBlock], fun k _ hne => heap_setBlock_other h _ (fun e => hne (by rw [e]; exact ho)), fun _ _ => rfl⟩
/-- a new page comes into the map -/
theorem IsE.putNew (h : IsE w o j g pd m n su t E ck) (a : Pl) (b : Nat) (hk : ∀ e ∈ E, e.a.page ≠ a.page) (hA : At w b (plv a) 74) (ob : o b = j) (nb : ∀ e ∈ E, e.b ≠ b) :
    ∃ w', (Instr.mapUpdate 61 (.map (some m)) (.int .i64 (a.page : Int)) (.pointer (some ⟨b, 0, none⟩))).run Tryz.prog w = .ok () w' ∧ IsE w' o j g pd m n su t (E ++ [(⟨a, b, ck⟩ : En)]) (ck + 1) ∧ Stp o j w o w' := by
  have f := emiss 0 E (a.page : Int) (fun e he x => hk e he (by omega))
  refine ⟨setBlock w m (.map ((E ++ [(⟨a, b, ck⟩ : En)]).map enm).toArray (ck + 1)), ?_, ?_, stp_setBlock7 h.hm _ o j h.om⟩
  · simp [Instr.mapUpdate, run_underlying Tryz.underlying61, MapKept.run_getObj_map h.hm, run_checkKey Tryz.underlying3 (show IsKey (.int .i64) (.int .i64 (a.page : Int)) from rfl), run_findKey Tryz.underlying3 f, Result.andThen]
    rw [MapKept.run_setObj_map _ h.hm]
    simp [setBlock, enm]
  · have ho : ∀ k, k ≠ m → (setBlock w m (.map ((E ++ [(⟨a, b, ck⟩ : En)]).map enm).toArray (ck + 1))).heap[k]? = w.heap[k]? := fun k hk => heap_setBlock_other h.hm _ hk
    have nbm : b ≠ m := fun e => by have x := h.hm; unfold At at hA; rw [← e, hA] at x; cases x
    refine ⟨(ho g h.ngm).trans h.hp, heap_setBlock_same h.hm _, fun e he => ?_, h.op, h.om, fun e he => ?_, ?_, ?_, ?_, fun e he => ?_⟩
    · rcases List.mem_append.1 he with he | he
      · exact (ho e.b (h.nmb he).symm).trans (h.hb e he)
      · obtain rfl := List.mem_singleton.1 he
        exact (ho b nbm).trans hA
    · rcases List.mem_append.1 he with he | he
      · exact h.ob e he
      · obtain rfl := List.mem_singleton.1 he; exact ob
    · rw [List.map_append]; exact List.nodup_append.2 ⟨h.nb, by simp, fun x hx y hy => by
        obtain ⟨e, he, rfl⟩ := List.mem_map.1 hx
        simp at hy; subst hy; exact nb e he⟩
    · rw [List.map_append]; exact List.nodup_append.2 ⟨h.nk, by simp, fun x hx y hy => by
        obtain ⟨e, he, rfl⟩ := List.mem_map.1 hx
        simp at hy; subst hy; exact hk e he⟩
    · rw [List.map_append]; exact List.nodup_append.2 ⟨h.ni, by simp, fun x hx y hy => by
        obtain ⟨e, he, rfl⟩ := List.mem_map.1 hx
        simp at hy; subst hy; exact Nat.ne_of_lt (h.nc e he)⟩
    · rcases List.mem_append.1 he with he | he
      · exact Nat.lt_succ_of_lt (h.nc e he)
      · obtain rfl := List.mem_singleton.1 he; exact Nat.lt_succ_self _
theorem eraseIdx_cut : ∀ (E : List En) (i : Nat) (e : En), E[i]? = some e → (E.map (·.a.page)).Nodup → E.eraseIdx i = cutE E e.a.page
  | [], _, _, h, _ => by simp at h
  | x :: l, 0, e, h, hn => by
    simp at h; subst h
    simp only [List.map_cons, List.nodup_cons] at hn
    show l = List.filter _ (x :: l)
    rw [List.filter_cons_of_neg (by simp)]
    exact (List.filter_eq_self.2 (fun y hy => by
      have : y.a.page ≠ x.a.page := fun e => hn.1 (by rw [← e]; exact List.mem_map.2 ⟨y, hy, rfl⟩)
      simp; omega)).symm
  | x :: l, i + 1, e, h, hn => by
    simp only [List.map_cons, List.nodup_cons] at hn
    have he : l[i]? = some e := by simpa using h
    have hm : e ∈ l := List.mem_of_getElem? he
    have : x.a.page ≠ e.a.page := fun y => hn.1 (by rw [y]; exact List.mem_map.2 ⟨e, hm, rfl⟩)
    show x :: l.eraseIdx i = List.filter _ (x :: l)
    rw [List.filter_cons_of_pos (by simp; omega), eraseIdx_cut l i e he hn.2]; rfl
/-- a page leaves the map -/
theorem IsE.del (h : IsE w o j g pd m n su t E ck) {e : En} (he : e ∈ E) :
    ∃ w', (∀ ty : TypeId, (Builtin.delete_ #[61, 3] ty #[.map (some m), .int .i64 (e.a.page : Int)]).run Tryz.prog w = .ok (.tuple #[]) w') ∧ IsE w' o j g pd m n su t (cutE E e.a.page) ck ∧ Stp o j w o w' := by
  obtain ⟨i, h1, f⟩ := ehit 0 E e he h.nk
  rw [Nat.zero_add] at f
  have e1 : (E.map enm).eraseIdx i = (cutE E e.a.page).map enm := by
    rw [← eraseIdx_cut E i e h1 h.nk, map_eraseIdx]
  refine ⟨setBlock w m (.map ((cutE E e.a.page).map enm).toArray ck), fun ty => ?_, ?_, stp_setBlock7 h.hm _ o j h.om⟩
  · simp [Builtin.delete_, run_underlying Tryz.underlying61, MapKept.run_getObj_map h.hm, run_checkKey Tryz.underlying3 (show IsKey (.int .i64) (.int .i64 (e.a.page : Int)) from rfl), run_findKey Tryz.underlying3 f, Result.andThen]
    rw [MapKept.run_setObj_map _ h.hm, e1]
    rfl
  · have ho : ∀ k, k ≠ m → (setBlock w m (.map ((cutE E e.a.page).map enm).toArray ck)).heap[k]? = w.heap[k]? := fun k hk => heap_setBlock_other h.hm _ hk
    have sub : ∀ x ∈ cutE E e.a.page, x ∈ E := fun x hx => (List.mem_filter.1 hx).1
    have sl : (cutE E e.a.page).Sublist E := List.filter_sublist
    exact ⟨(ho g h.ngm).trans h.hp, heap_setBlock_same h.hm _, fun x hx => (ho x.b (h.nmb (sub x hx)).symm).trans (h.hb x (sub x hx)), h.op, h.om, fun x hx => h.ob x (sub x hx), (sl.map _).nodup h.nb, (sl.map _).nodup h.nk, (sl.map _).nodup h.ni, fun x hx => h.nc x (sub x hx)⟩
end
end Go.Proofs.YthjlbfijfpfohaaGreat
