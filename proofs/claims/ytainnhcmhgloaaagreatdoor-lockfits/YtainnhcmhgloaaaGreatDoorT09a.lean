/-
  Where a table of locks lies: its three maps, its entries, what each owner holds; what may change in it.
-/
import Derived.Test.YtainnhcmhgloaaaGreatDoorK09a
namespace Go.Proofs.YtainnhcmhgloaaaGreatDoor
open Go.RowKit Go.MapKept

/-- what a block is for -/
inductive Part where
  | tbl | names | held | waits
  | ent (n : ByteArray) | hold (n : ByteArray) | que (n : ByteArray) | own (o : Int)
/-- an entry: its name, its block, its holders' block, its holders, its queue -/
structure En where
  name : ByteArray
  b : Nat
  hb : Nat
  hs : List (Int × Nat)
  qv : Value
  q : List Int
/-- what an owner holds -/
structure Ho where
  owner : Int
  b : Nat
  ns : List (ByteArray × Nat)
def ptr9 (b : Nat) : Value := .pointer (some ⟨b, 0, none⟩)
def nkv (e : En) : Value × Value := (.string e.name, ptr9 e.b)
def hkv (h : Ho) : Value × Value := (.int .i64 h.owner, .map (some h.b))
def wkv (x : Has9) : Value × Value := (.int .i64 x.owner, .agg #[.string x.name, .int .i64 (x.mode : Int)])
def hskv (p : Int × Nat) : Value × Value := (.int .i64 p.1, .int .i64 (p.2 : Int))
def nskv (p : ByteArray × Nat) : Value × Value := (.string p.1, ptr9 p.2)
def encI9 (x : Int) : Value := .int .i64 x
def encs (e : En) : Array Value := #[.string e.name, .map (some e.hb), e.qv]
structure IsT (w : World) (o : Nat → Nat) (j g m1 m2 m3 : Nat) (N : List En) (HL : List Ho) (WL : Hs) : Prop where
  hp : At w g #[.map (some m1), .map (some m2), .map (some m3)] 54
  hn : MapAt .string w m1 (N.map nkv)
  hh : MapAt (.int .i64) w m2 (HL.map hkv)
  hw : MapAt (.int .i64) w m3 (WL.map wkv)
  eb : ∀ e ∈ N, At w e.b (encs e) 70
  eh : ∀ e ∈ N, MapAt (.int .i64) w e.hb (e.hs.map hskv)
  er : ∀ e ∈ N, Row w o j 3 1 e.qv e.q.length (e.q.map encI9)
  ho : ∀ h ∈ HL, MapAt .string w h.b (h.ns.map nskv)
  tg : ∃ tg : Nat → Part, tg g = .tbl ∧ tg m1 = .names ∧ tg m2 = .held ∧ tg m3 = .waits ∧ (∀ e ∈ N, tg e.b = .ent e.name ∧ tg e.hb = .hold e.name ∧ ∀ r, e.qv.ownBlock = some r → tg r = .que e.name) ∧ ∀ h ∈ HL, tg h.b = .own h.owner
  og : o g = j ∧ o m1 = j ∧ o m2 = j ∧ o m3 = j
  oe : ∀ e ∈ N, o e.b = j ∧ o e.hb = j
  oh : ∀ h ∈ HL, o h.b = j
section
variable {w w' : World} {o o' : Nat → Nat} {i j g m1 m2 m3 : Nat} {N N1 N2 : List En} {HL HL1 HL2 : List Ho} {WL : Hs} {e : En} {h : Ho}
theorem IsT.kept (T : IsT w o j g m1 m2 m3 N HL WL) (hs : ∀ k, k < w.heap.size → o k = j → w'.heap[k]? = w.heap[k]?) (hk : ∀ k, k < w.heap.size → o' k = o k) : IsT w' o' j g m1 m2 m3 N HL WL :=
  ⟨T.hp.same (hs g T.hp.lt T.og.1), T.hn.same (hs m1 T.hn.lt T.og.2.1), T.hh.same (hs m2 T.hh.lt T.og.2.2.1), T.hw.same (hs m3 T.hw.lt T.og.2.2.2),
   fun e he => (T.eb e he).same (hs _ (T.eb e he).lt (T.oe e he).1), fun e he => (T.eh e he).same (hs _ (T.eh e he).lt (T.oe e he).2),
   fun e he => ⟨ownsRow_same (T.er e he).row (fun r hr => hs r ((T.er e he).lt hr) ((T.er e he).own r hr)), fun r hr => (hk r ((T.er e he).lt hr)).trans ((T.er e he).own r hr)⟩,
   fun h hh => (T.ho h hh).same (hs _ (T.ho h hh).lt (T.oh h hh)), T.tg,
   ⟨(hk g T.hp.lt).trans T.og.1, (hk m1 T.hn.lt).trans T.og.2.1, (hk m2 T.hh.lt).trans T.og.2.2.1, (hk m3 T.hw.lt).trans T.og.2.2.2⟩,
   fun e he => ⟨(hk _ (T.eb e he).lt).trans (T.oe e he).1, (hk _ (T.eh e he).lt).trans (T.oe e he).2⟩, fun h hh => (hk _ (T.ho h hh).lt).trans (T.oh h hh)⟩
theorem IsT.other (T : IsT w o j g m1 m2 m3 N HL WL) (s : Stp o i w o' w') (hne : j ≠ i) : IsT w' o' j g m1 m2 m3 N HL WL :=
  T.kept (fun k hk e => s.blk k hk (by rw [e]; exact hne)) s.own
theorem IsT.reads (T : IsT w o j g m1 m2 m3 N HL WL) (b : Below w.heap.size w w') : IsT w' o j g m1 m2 m3 N HL WL :=
  T.kept (fun k hk _ => b.block k hk) (fun _ _ => rfl)
theorem IsT.drewN (T : IsT w o j g m1 m2 m3 N HL WL) (q : Nat) : IsT (w.drewN q) o j g m1 m2 m3 N HL WL := T.reads (below_drewN w q)
theorem IsT.drew (T : IsT w o j g m1 m2 m3 N HL WL) : IsT w.drew o j g m1 m2 m3 N HL WL := T.reads ((Below.refl _ w).drew)
theorem IsT.nnd (T : IsT w o j g m1 m2 m3 N HL WL) : (N.map (·.name)).Nodup := by
  have := T.hn.nokeys
  rw [List.map_map] at this
  exact List.Pairwise.of_map (S := fun a b => a ≠ b) (f := fun n : ByteArray => Value.string n) (fun a b hab e => hab (by rw [e])) (by rw [List.map_map]; exact this)
theorem IsT.ond (T : IsT w o j g m1 m2 m3 N HL WL) : (HL.map (·.owner)).Nodup := by
  have := T.hh.nokeys
  rw [List.map_map] at this
  exact List.Pairwise.of_map (S := fun a b => a ≠ b) (f := fun n : Int => Value.int .i64 n) (fun a b hab e => hab (by rw [e])) (by rw [List.map_map]; exact this)
theorem hs_nodup {hs : List (Int × Nat)} {m : Nat} (M : MapAt (.int .i64) w m (hs.map hskv)) : (hs.map (·.1)).Nodup := by
  have := M.nokeys
  rw [List.map_map] at this
  exact List.Pairwise.of_map (S := fun a b => a ≠ b) (f := fun n : Int => Value.int .i64 n) (fun a b hab e => hab (by rw [e])) (by rw [List.map_map]; exact this)
theorem ns_nodup {ns : List (ByteArray × Nat)} {m : Nat} (M : MapAt .string w m (ns.map nskv)) : (ns.map (·.1)).Nodup := by
  have := M.nokeys
  rw [List.map_map] at this
  exact List.Pairwise.of_map (S := fun a b => a ≠ b) (f := fun n : ByteArray => Value.string n) (fun a b hab e => hab (by rw [e])) (by rw [List.map_map]; exact this)
theorem mem_mid {α : Type} {l1 l2 : List α} {x y : α} (h : y ∈ l1 ++ x :: l2) : y = x ∨ (y ∈ l1 ∨ y ∈ l2) := by
  rcases List.mem_append.1 h with h | h
  · exact .inr (.inl h)
  · rcases List.mem_cons.1 h with h | h
    · exact .inl h
    · exact .inr (.inr h)
theorem mid_ne {α β : Type} {f : α → β} {l1 l2 : List α} {x y : α} (hn : ((l1 ++ x :: l2).map f).Nodup) (h : y ∈ l1 ∨ y ∈ l2) : f y ≠ f x := by
  rw [List.map_append, List.map_cons] at hn
  have hn' := List.nodup_append.1 hn
  rcases h with h | h
  · exact hn'.2.2 (f y) (List.mem_map.2 ⟨y, h, rfl⟩) (f x) (by simp)
  · intro e
    have := (List.nodup_cons.1 hn'.2.1).1
    exact this (by rw [← e]; exact List.mem_map.2 ⟨y, h, rfl⟩)
theorem mid_old {α : Type} {l1 l2 : List α} {x y : α} (h : y ∈ l1 ∨ y ∈ l2) : y ∈ l1 ++ x :: l2 := by
  rcases h with h | h <;> simp [h]
/-- an entry's holders change -/
theorem IsT.setHolders (T : IsT w o j g m1 m2 m3 (N1 ++ e :: N2) HL WL) (hs : List (Int × Nat)) (ow : Only e.hb w w') (M : MapAt (.int .i64) w' e.hb (hs.map hskv)) : IsT w' o j g m1 m2 m3 (N1 ++ { e with hs := hs } :: N2) HL WL := by
  have he : e ∈ N1 ++ e :: N2 := by simp
  obtain ⟨tg, g0, g1, g2, g3, g4, g5⟩ := T.tg
  have ge := g4 e he
  have nd := T.nnd
  have ne : ∀ k, tg k ≠ .hold e.name → k ≠ e.hb := fun k hk x => hk (by rw [x]; exact ge.2.1)
  have sm : ∀ k, tg k ≠ .hold e.name → w'.heap[k]? = w.heap[k]? := fun k hk => ow.blk k (ne k hk)
  refine ⟨T.hp.same (sm _ (by rw [g0]; simp)), ?_, T.hh.same (sm _ (by rw [g2]; simp)), T.hw.same (sm _ (by rw [g3]; simp)), ?_, ?_, ?_, fun h hh => (T.ho h hh).same (sm _ (by rw [g5 h hh]; simp)), ⟨tg, g0, g1, g2, g3, ?_, g5⟩, T.og, ?_, T.oh⟩
  · have := T.hn.same (sm m1 (by rw [g1]; simp))
    simpa [nkv] using this
  · intro y hy
    rcases mem_mid hy with rfl | hy
    · exact (T.eb e he).same (sm _ (by rw [ge.1]; simp))
    · exact (T.eb y (mid_old hy)).same (sm _ (by rw [(g4 y (mid_old hy)).1]; simp))
  · intro y hy
    rcases mem_mid hy with rfl | hy
    · exact M
    · refine (T.eh y (mid_old hy)).same (sm _ ?_)
      rw [(g4 y (mid_old hy)).2.1]
      intro x; exact mid_ne nd hy (Part.hold.inj x)
  · intro y hy
    have key : ∀ z ∈ N1 ++ e :: N2, Row w' o j 3 1 z.qv z.q.length (z.q.map encI9) := fun z hz =>
      ⟨ownsRow_same (T.er z hz).row (fun r hr => sm r (by rw [(g4 z hz).2.2 r hr]; simp)), (T.er z hz).own⟩
    rcases mem_mid hy with rfl | hy
    · exact key e he
    · exact key y (mid_old hy)
  · intro y hy
    rcases mem_mid hy with rfl | hy
    · exact g4 e he
    · exact g4 y (mid_old hy)
  · intro y hy
    rcases mem_mid hy with rfl | hy
    · exact T.oe e he
    · exact T.oe y (mid_old hy)
/-- an entry's queue changes -/
theorem IsT.setQueue (T : IsT w o j g m1 m2 m3 (N1 ++ e :: N2) HL WL) (qv : Value) (q : List Int) (hA : At w' e.b #[.string e.name, .map (some e.hb), qv] 70) (hR : Row w' o' j 3 1 qv q.length (q.map encI9))
    (hS : ∀ k, k < w.heap.size → k ≠ e.b → e.qv.ownBlock ≠ some k → w'.heap[k]? = w.heap[k]?) (hk : ∀ k, k < w.heap.size → o' k = o k) (hq : ∀ r, qv.ownBlock = some r → e.qv.ownBlock = some r ∨ w.heap.size ≤ r) : IsT w' o' j g m1 m2 m3 (N1 ++ { e with qv := qv, q := q } :: N2) HL WL := by
  have he : e ∈ N1 ++ e :: N2 := by simp
  obtain ⟨tg, g0, g1, g2, g3, g4, g5⟩ := T.tg
  have ge := g4 e he
  have nd := T.nnd
  have sm : ∀ k, k < w.heap.size → tg k ≠ .ent e.name → tg k ≠ .que e.name → w'.heap[k]? = w.heap[k]? := fun k hl h1 h2 => hS k hl (fun x => h1 (by rw [x]; exact ge.1)) (fun x => h2 (ge.2.2 k x))
  refine ⟨T.hp.same (sm _ T.hp.lt (by rw [g0]; simp) (by rw [g0]; simp)), ?_, T.hh.same (sm _ T.hh.lt (by rw [g2]; simp) (by rw [g2]; simp)), T.hw.same (sm _ T.hw.lt (by rw [g3]; simp) (by rw [g3]; simp)), ?_, ?_, ?_, fun h hh => (T.ho h hh).same (sm _ (T.ho h hh).lt (by rw [g5 h hh]; simp) (by rw [g5 h hh]; simp)), ⟨fun k => if k < w.heap.size then tg k else .que e.name, ?_, ?_, ?_, ?_, ?_, ?_⟩, ?_, ?_, ?_⟩
  · have := T.hn.same (sm m1 T.hn.lt (by rw [g1]; simp) (by rw [g1]; simp))
    simpa [nkv] using this
  · intro y hy
    rcases mem_mid hy with rfl | hy
    · exact hA
    · refine (T.eb y (mid_old hy)).same (sm _ (T.eb y (mid_old hy)).lt ?_ ?_)
      · rw [(g4 y (mid_old hy)).1]; intro x; exact mid_ne nd hy (Part.ent.inj x)
      · rw [(g4 y (mid_old hy)).1]; simp
  · intro y hy
    have key : ∀ z ∈ N1 ++ e :: N2, MapAt (.int .i64) w' z.hb (z.hs.map hskv) := fun z hz => (T.eh z hz).same (sm _ (T.eh z hz).lt (by rw [(g4 z hz).2.1]; simp) (by rw [(g4 z hz).2.1]; simp))
    rcases mem_mid hy with rfl | hy
    · exact key e he
    · exact key y (mid_old hy)
  · intro y hy
    rcases mem_mid hy with rfl | hy
    · exact hR
    · have hy' := mid_old (x := e) hy
      refine ⟨ownsRow_same (T.er y hy').row (fun r hr => sm r ((T.er y hy').lt hr) ?_ ?_), fun r hr => (hk r ((T.er y hy').lt hr)).trans ((T.er y hy').own r hr)⟩
      · rw [(g4 y hy').2.2 r hr]; simp
      · rw [(g4 y hy').2.2 r hr]; intro x; exact mid_ne nd hy (Part.que.inj x)
  · simp only; rw [if_pos T.hp.lt]; exact g0
  · simp only; rw [if_pos T.hn.lt]; exact g1
  · simp only; rw [if_pos T.hh.lt]; exact g2
  · simp only; rw [if_pos T.hw.lt]; exact g3
  · intro y hy
    rcases mem_mid hy with rfl | hy
    · refine ⟨?_, ?_, fun r hr => ?_⟩
      · show (if e.b < _ then _ else _) = _
        rw [if_pos (T.eb e he).lt]; exact ge.1
      · show (if e.hb < _ then _ else _) = _
        rw [if_pos (T.eh e he).lt]; exact ge.2.1
      · simp only
        rcases hq r hr with h1 | h1
        · rw [if_pos ((T.er e he).lt h1)]; exact ge.2.2 r h1
        · rw [if_neg (by omega)]
    · have hy' := mid_old (x := e) hy
      refine ⟨?_, ?_, fun r hr => ?_⟩
      · simp only; rw [if_pos (T.eb y hy').lt]; exact (g4 y hy').1
      · simp only; rw [if_pos (T.eh y hy').lt]; exact (g4 y hy').2.1
      · simp only; rw [if_pos ((T.er y hy').lt hr)]; exact (g4 y hy').2.2 r hr
  · intro h hh
    simp only; rw [if_pos (T.ho h hh).lt]; exact g5 h hh
  · exact ⟨(hk g T.hp.lt).trans T.og.1, (hk m1 T.hn.lt).trans T.og.2.1, (hk m2 T.hh.lt).trans T.og.2.2.1, (hk m3 T.hw.lt).trans T.og.2.2.2⟩
  · intro y hy
    have key : ∀ z ∈ N1 ++ e :: N2, o' z.b = j ∧ o' z.hb = j := fun z hz => ⟨(hk _ (T.eb z hz).lt).trans (T.oe z hz).1, (hk _ (T.eh z hz).lt).trans (T.oe z hz).2⟩
    rcases mem_mid hy with rfl | hy
    · exact key e he
    · exact key y (mid_old hy)
  · exact fun h hh => (hk _ (T.ho h hh).lt).trans (T.oh h hh)
/-- who waits changes -/
theorem IsT.setWaits (T : IsT w o j g m1 m2 m3 N HL WL) (WL' : Hs) (ow : Only m3 w w') (M : MapAt (.int .i64) w' m3 (WL'.map wkv)) : IsT w' o j g m1 m2 m3 N HL WL' := by
  obtain ⟨tg, g0, g1, g2, g3, g4, g5⟩ := T.tg
  have sm : ∀ k, tg k ≠ .waits → w'.heap[k]? = w.heap[k]? := fun k hk => ow.blk k (fun x => hk (by rw [x]; exact g3))
  exact ⟨T.hp.same (sm _ (by rw [g0]; simp)), T.hn.same (sm _ (by rw [g1]; simp)), T.hh.same (sm _ (by rw [g2]; simp)), M,
    fun e he => (T.eb e he).same (sm _ (by rw [(g4 e he).1]; simp)), fun e he => (T.eh e he).same (sm _ (by rw [(g4 e he).2.1]; simp)),
    fun e he => ⟨ownsRow_same (T.er e he).row (fun r hr => sm r (by rw [(g4 e he).2.2 r hr]; simp)), (T.er e he).own⟩, fun h hh => (T.ho h hh).same (sm _ (by rw [g5 h hh]; simp)), ⟨tg, g0, g1, g2, g3, g4, g5⟩, T.og, T.oe, T.oh⟩
/-- what an owner holds changes -/
theorem IsT.setOwn (T : IsT w o j g m1 m2 m3 N (HL1 ++ h :: HL2) WL) (ns : List (ByteArray × Nat)) (ow : Only h.b w w') (M : MapAt .string w' h.b (ns.map nskv)) : IsT w' o j g m1 m2 m3 N (HL1 ++ { h with ns := ns } :: HL2) WL := by
  have he : h ∈ HL1 ++ h :: HL2 := by simp
  obtain ⟨tg, g0, g1, g2, g3, g4, g5⟩ := T.tg
  have nd := T.ond
  have sm : ∀ k, tg k ≠ .own h.owner → w'.heap[k]? = w.heap[k]? := fun k hk => ow.blk k (fun x => hk (by rw [x]; exact g5 h he))
  refine ⟨T.hp.same (sm _ (by rw [g0]; simp)), T.hn.same (sm _ (by rw [g1]; simp)), ?_, T.hw.same (sm _ (by rw [g3]; simp)),
    fun e he => (T.eb e he).same (sm _ (by rw [(g4 e he).1]; simp)), fun e he => (T.eh e he).same (sm _ (by rw [(g4 e he).2.1]; simp)),
    fun e he => ⟨ownsRow_same (T.er e he).row (fun r hr => sm r (by rw [(g4 e he).2.2 r hr]; simp)), (T.er e he).own⟩, ?_, ⟨tg, g0, g1, g2, g3, g4, ?_⟩, T.og, T.oe, ?_⟩
  · have := T.hh.same (sm m2 (by rw [g2]; simp))
    simpa [hkv] using this
  · intro y hy
    rcases mem_mid hy with rfl | hy
    · exact M
    · refine (T.ho y (mid_old hy)).same (sm _ ?_)
      rw [g5 y (mid_old hy)]; intro x; exact mid_ne nd hy (Part.own.inj x)
  · intro y hy
    rcases mem_mid hy with rfl | hy
    · exact g5 h he
    · exact g5 y (mid_old hy)
  · intro y hy
    rcases mem_mid hy with rfl | hy
    · exact T.oh h he
    · exact T.oh y (mid_old hy)
/-- an owner goes -/
theorem IsT.cutOwn (T : IsT w o j g m1 m2 m3 N (HL1 ++ h :: HL2) WL) (ow : Only m2 w w') (M : MapAt (.int .i64) w' m2 ((HL1 ++ HL2).map hkv)) : IsT w' o j g m1 m2 m3 N (HL1 ++ HL2) WL := by
  obtain ⟨tg, g0, g1, g2, g3, g4, g5⟩ := T.tg
  have sm : ∀ k, tg k ≠ .held → w'.heap[k]? = w.heap[k]? := fun k hk => ow.blk k (fun x => hk (by rw [x]; exact g2))
  have old : ∀ y ∈ HL1 ++ HL2, y ∈ HL1 ++ h :: HL2 := fun y hy => mid_old (List.mem_append.1 hy)
  exact ⟨T.hp.same (sm _ (by rw [g0]; simp)), T.hn.same (sm _ (by rw [g1]; simp)), M, T.hw.same (sm _ (by rw [g3]; simp)),
    fun e he => (T.eb e he).same (sm _ (by rw [(g4 e he).1]; simp)), fun e he => (T.eh e he).same (sm _ (by rw [(g4 e he).2.1]; simp)),
    fun e he => ⟨ownsRow_same (T.er e he).row (fun r hr => sm r (by rw [(g4 e he).2.2 r hr]; simp)), (T.er e he).own⟩, fun y hy => (T.ho y (old y hy)).same (sm _ (by rw [g5 y (old y hy)]; simp)),
    ⟨tg, g0, g1, g2, g3, g4, fun y hy => g5 y (old y hy)⟩, T.og, T.oe, fun y hy => T.oh y (old y hy)⟩
theorem IsT.gives (T : IsT w o j g m1 m2 m3 N HL WL) (n : Nat) : IsT w (gives o n j) j g m1 m2 m3 N HL WL :=
  ⟨T.hp, T.hn, T.hh, T.hw, T.eb, T.eh, fun e he => ⟨(T.er e he).row, fun r hr => gives_mine ((T.er e he).own r hr)⟩, T.ho, T.tg, ⟨gives_mine T.og.1, gives_mine T.og.2.1, gives_mine T.og.2.2.1, gives_mine T.og.2.2.2⟩, fun e he => ⟨gives_mine (T.oe e he).1, gives_mine (T.oe e he).2⟩, fun h hh => gives_mine (T.oh h hh)⟩
/-- an owner comes, whose map is new -/
theorem IsT.addOwn {w1 : World} (T : IsT w o j g m1 m2 m3 N HL WL) (x : Int) (b : Nat) (bel : Below w.heap.size w w1) (hb : w.heap.size ≤ b) (hob : o b = j) (M0 : MapAt .string w1 b []) (ow : Only m2 w1 w') (M : MapAt (.int .i64) w' m2 ((HL ++ [(⟨x, b, []⟩ : Ho)]).map hkv)) :
    IsT w' o j g m1 m2 m3 N (HL ++ [(⟨x, b, []⟩ : Ho)]) WL := by
  obtain ⟨tg, g0, g1, g2, g3, g4, g5⟩ := T.tg
  have sm : ∀ k, k < w.heap.size → tg k ≠ .held → w'.heap[k]? = w.heap[k]? := fun k hl hk => (ow.blk k (fun x => hk (by rw [x]; exact g2))).trans (bel.block k hl)
  have nb : b ≠ m2 := fun x => by have := T.hh.lt; omega
  refine ⟨T.hp.same (sm _ T.hp.lt (by rw [g0]; simp)), T.hn.same (sm _ T.hn.lt (by rw [g1]; simp)), M, T.hw.same (sm _ T.hw.lt (by rw [g3]; simp)),
    fun e he => (T.eb e he).same (sm _ (T.eb e he).lt (by rw [(g4 e he).1]; simp)), fun e he => (T.eh e he).same (sm _ (T.eh e he).lt (by rw [(g4 e he).2.1]; simp)),
    fun e he => ⟨ownsRow_same (T.er e he).row (fun r hr => sm r ((T.er e he).lt hr) (by rw [(g4 e he).2.2 r hr]; simp)), (T.er e he).own⟩, ?_, ⟨fun k => if k < w.heap.size then tg k else .own x, ?_, ?_, ?_, ?_, ?_, ?_⟩, T.og, T.oe, ?_⟩
  · intro y hy
    rcases List.mem_append.1 hy with hy | hy
    · exact (T.ho y hy).same (sm _ (T.ho y hy).lt (by rw [g5 y hy]; simp))
    · obtain rfl := List.mem_singleton.1 hy
      exact M0.same (ow.blk b nb)
  · simp only; rw [if_pos T.hp.lt]; exact g0
  · simp only; rw [if_pos T.hn.lt]; exact g1
  · simp only; rw [if_pos T.hh.lt]; exact g2
  · simp only; rw [if_pos T.hw.lt]; exact g3
  · intro y hy
    refine ⟨?_, ?_, fun r hr => ?_⟩
    · simp only; rw [if_pos (T.eb y hy).lt]; exact (g4 y hy).1
    · simp only; rw [if_pos (T.eh y hy).lt]; exact (g4 y hy).2.1
    · simp only; rw [if_pos ((T.er y hy).lt hr)]; exact (g4 y hy).2.2 r hr
  · intro y hy
    rcases List.mem_append.1 hy with hy | hy
    · simp only; rw [if_pos (T.ho y hy).lt]; exact g5 y hy
    · obtain rfl := List.mem_singleton.1 hy
      simp only; rw [if_neg (by omega)]
  · intro y hy
    rcases List.mem_append.1 hy with hy | hy
    · exact T.oh y hy
    · obtain rfl := List.mem_singleton.1 hy; exact hob
/-- a name comes, whose entry is new -/
theorem IsT.addName {w1 : World} (T : IsT w o j g m1 m2 m3 N HL WL) (n : ByteArray) (b hb : Nat) (bel : Below w.heap.size w w1) (h1 : w.heap.size ≤ b) (h2 : w.heap.size ≤ hb) (hne : b ≠ hb) (hob : o b = j ∧ o hb = j) (hA : At w1 b #[.string n, .map (some hb), .slice none 0 0] 70) (M0 : MapAt (.int .i64) w1 hb [])
    (ow : Only m1 w1 w') (M : MapAt .string w' m1 ((N ++ [(⟨n, b, hb, [], .slice none 0 0, []⟩ : En)]).map nkv)) :
    IsT w' o j g m1 m2 m3 (N ++ [(⟨n, b, hb, [], .slice none 0 0, []⟩ : En)]) HL WL := by
  obtain ⟨tg, g0, g1, g2, g3, g4, g5⟩ := T.tg
  have sm : ∀ k, k < w.heap.size → tg k ≠ .names → w'.heap[k]? = w.heap[k]? := fun k hl hk => (ow.blk k (fun x => hk (by rw [x]; exact g1))).trans (bel.block k hl)
  have nb : b ≠ m1 := fun x => by have := T.hn.lt; omega
  have nh : hb ≠ m1 := fun x => by have := T.hn.lt; omega
  refine ⟨T.hp.same (sm _ T.hp.lt (by rw [g0]; simp)), M, T.hh.same (sm _ T.hh.lt (by rw [g2]; simp)), T.hw.same (sm _ T.hw.lt (by rw [g3]; simp)), ?_, ?_, ?_, fun y hy => (T.ho y hy).same (sm _ (T.ho y hy).lt (by rw [g5 y hy]; simp)),
    ⟨fun k => if k < w.heap.size then tg k else if k = b then .ent n else .hold n, ?_, ?_, ?_, ?_, ?_, ?_⟩, T.og, ?_, T.oh⟩
  · intro y hy
    rcases List.mem_append.1 hy with hy | hy
    · exact (T.eb y hy).same (sm _ (T.eb y hy).lt (by rw [(g4 y hy).1]; simp))
    · obtain rfl := List.mem_singleton.1 hy; exact hA.same (ow.blk b nb)
  · intro y hy
    rcases List.mem_append.1 hy with hy | hy
    · exact (T.eh y hy).same (sm _ (T.eh y hy).lt (by rw [(g4 y hy).2.1]; simp))
    · obtain rfl := List.mem_singleton.1 hy; exact M0.same (ow.blk hb nh)
  · intro y hy
    rcases List.mem_append.1 hy with hy | hy
    · exact ⟨ownsRow_same (T.er y hy).row (fun r hr => sm r ((T.er y hy).lt hr) (by rw [(g4 y hy).2.2 r hr]; simp)), (T.er y hy).own⟩
    · obtain rfl := List.mem_singleton.1 hy; exact Row.nil _ _ _ _ _
  · simp only; rw [if_pos T.hp.lt]; exact g0
  · simp only; rw [if_pos T.hn.lt]; exact g1
  · simp only; rw [if_pos T.hh.lt]; exact g2
  · simp only; rw [if_pos T.hw.lt]; exact g3
  · intro y hy
    rcases List.mem_append.1 hy with hy | hy
    · refine ⟨?_, ?_, fun r hr => ?_⟩
      · simp only; rw [if_pos (T.eb y hy).lt]; exact (g4 y hy).1
      · simp only; rw [if_pos (T.eh y hy).lt]; exact (g4 y hy).2.1
      · simp only; rw [if_pos ((T.er y hy).lt hr)]; exact (g4 y hy).2.2 r hr
    · obtain rfl := List.mem_singleton.1 hy
      refine ⟨?_, ?_, fun r hr => by simp [Value.ownBlock] at hr⟩
      · simp only; rw [if_neg (by omega)]; simp
      · simp only; rw [if_neg (by omega), if_neg (fun e => hne e.symm)]
  · intro y hy
    simp only; rw [if_pos (T.ho y hy).lt]; exact g5 y hy
  · intro y hy
    rcases List.mem_append.1 hy with hy | hy
    · exact T.oe y hy
    · obtain rfl := List.mem_singleton.1 hy; exact hob
/-- a name goes -/
theorem IsT.cutName (T : IsT w o j g m1 m2 m3 (N1 ++ e :: N2) HL WL) (ow : Only m1 w w') (M : MapAt .string w' m1 ((N1 ++ N2).map nkv)) : IsT w' o j g m1 m2 m3 (N1 ++ N2) HL WL := by
  obtain ⟨tg, g0, g1, g2, g3, g4, g5⟩ := T.tg
  have sm : ∀ k, tg k ≠ .names → w'.heap[k]? = w.heap[k]? := fun k hk => ow.blk k (fun x => hk (by rw [x]; exact g1))
  have old : ∀ y ∈ N1 ++ N2, y ∈ N1 ++ e :: N2 := fun y hy => mid_old (List.mem_append.1 hy)
  exact ⟨T.hp.same (sm _ (by rw [g0]; simp)), M, T.hh.same (sm _ (by rw [g2]; simp)), T.hw.same (sm _ (by rw [g3]; simp)),
    fun y hy => (T.eb y (old y hy)).same (sm _ (by rw [(g4 y (old y hy)).1]; simp)), fun y hy => (T.eh y (old y hy)).same (sm _ (by rw [(g4 y (old y hy)).2.1]; simp)),
    fun y hy => ⟨ownsRow_same (T.er y (old y hy)).row (fun r hr => sm r (by rw [(g4 y (old y hy)).2.2 r hr]; simp)), (T.er y (old y hy)).own⟩, fun h hh => (T.ho h hh).same (sm _ (by rw [g5 h hh]; simp)),
    ⟨tg, g0, g1, g2, g3, fun y hy => g4 y (old y hy), g5⟩, T.og, fun y hy => T.oe y (old y hy), T.oh⟩
/-- the map of owners is written, and stays what it is -/
theorem IsT.setHeld (T : IsT w o j g m1 m2 m3 N HL WL) (ow : Only m2 w w') (M : MapAt (.int .i64) w' m2 (HL.map hkv)) : IsT w' o j g m1 m2 m3 N HL WL := by
  obtain ⟨tg, g0, g1, g2, g3, g4, g5⟩ := T.tg
  have sm : ∀ k, tg k ≠ .held → w'.heap[k]? = w.heap[k]? := fun k hk => ow.blk k (fun x => hk (by rw [x]; exact g2))
  exact ⟨T.hp.same (sm _ (by rw [g0]; simp)), T.hn.same (sm _ (by rw [g1]; simp)), M, T.hw.same (sm _ (by rw [g3]; simp)),
    fun e he => (T.eb e he).same (sm _ (by rw [(g4 e he).1]; simp)), fun e he => (T.eh e he).same (sm _ (by rw [(g4 e he).2.1]; simp)),
    fun e he => ⟨ownsRow_same (T.er e he).row (fun r hr => sm r (by rw [(g4 e he).2.2 r hr]; simp)), (T.er e he).own⟩, fun h hh => (T.ho h hh).same (sm _ (by rw [g5 h hh]; simp)), ⟨tg, g0, g1, g2, g3, g4, g5⟩, T.og, T.oe, T.oh⟩
end
end Go.Proofs.YtainnhcmhgloaaaGreatDoor
