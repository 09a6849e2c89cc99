/-
  Records as bytes, plain: three bytes, how many there are, and these; what is read off any bytes, page by page or at once. No program in this text.
  Leaves of a log, plain: their bytes, which page is one, and that a page torn between two ages is none. No program in this text.
  A half of a log gone through, page by page, plain: what is found behind new leaves, be the last ones lost. No program in this text.
  Bytes on pages of a log, plain: cut into parts of 234, as few as can be; what of them is there, if only the first ones are. No program in this text.
  A half of a log behind a crash, plain: of the leaves of one age the first ones are there, all that were synced among them: so are the records. No program in this text.
  Which half of a log is told behind a crash, plain: the one that stood, with the first ones of what was written; or, behind a turn, its record alone. No program in this text.
  A turn that was not synced, behind a crash, plain: the other half has its record alone, or none that is told. No program in this text.
  A half behind a turn that was synced, plain; and both ways in which a half stands, at once. No program in this text.
  Raw pages as leaves, plain: a leaf's page is one; a page torn between two ages is none. No program in this text.
  A disk with a log, plain: what was written in one age, synced or not, and what a crash leaves of it. No program in this text.
  What Open tells behind a crash, plain: THE LOG's OWN THEOREM, over disks. No program in this text.
  A log's steps, plain: what is written, synced and turned leaves a disk as the ages ask. No program in this text.
-/
import Derived.Test.YthjlbfijfpfohaaGA
namespace Go.Proofs.Ythjlbfijfpfohaa

/-- a record behind its length -/
def recL (s : List UInt8) : List UInt8 := Lib.leBytes 3 s.length ++ s
def recsL (l : List (List UInt8)) : List UInt8 := l.flatMap recL
theorem recsL_nil : recsL [] = [] := rfl
theorem recsL_cons (s : List UInt8) (l : List (List UInt8)) : recsL (s :: l) = recL s ++ recsL l := by simp [recsL]
theorem recsL_append (a b : List (List UInt8)) : recsL (a ++ b) = recsL a ++ recsL b := by simp [recsL]
theorem recL_length (s : List UInt8) : (recL s).length = 3 + s.length := by simp [recL, Lib.leBytes_length]
/-- a whole record at the beginning of bytes, and what stands behind it -/
def oneR (l : List UInt8) : Option (List UInt8 × List UInt8) :=
  if 3 ≤ l.length ∧ 3 + Lib.leNat (l.take 3) ≤ l.length then some ((l.drop 3).take (Lib.leNat (l.take 3)), l.drop (3 + Lib.leNat (l.take 3))) else none
theorem oneR_less {l r x : List UInt8} (h : oneR l = some (r, x)) : x.length + 3 ≤ l.length := by
  unfold oneR at h
  split at h
  · rename_i hc
    simp only [Option.some.injEq, Prod.mk.injEq] at h
    rw [← h.2, List.length_drop]; omega
  · cases h
/-- the whole records at the beginning of bytes, and what is left -/
def partR (l : List UInt8) : List (List UInt8) × List UInt8 :=
  match _h : oneR l with
  | none => ([], l)
  | some (r, x) => (r :: (partR x).1, (partR x).2)
termination_by l.length
decreasing_by all_goals (have := oneR_less _h; omega)
theorem partR_none {l : List UInt8} (h : oneR l = none) : partR l = ([], l) := by
  rw [partR]; split
  · rfl
  · rename_i h'; rw [h] at h'; cases h'
theorem partR_some {l r x : List UInt8} (h : oneR l = some (r, x)) : partR l = (r :: (partR x).1, (partR x).2) := by
  rw [partR]; split
  · rename_i h'; rw [h] at h'; cases h'
  · rename_i h'; rw [h] at h'; cases h'; rfl
/-- more bytes do not change a record that is whole already -/
theorem oneR_more {l r x : List UInt8} (y : List UInt8) (h : oneR l = some (r, x)) : oneR (l ++ y) = some (r, x ++ y) := by
  unfold oneR at h ⊢
  split at h
  · rename_i hc
    simp only [Option.some.injEq, Prod.mk.injEq] at h
    have e3 : (l ++ y).take 3 = l.take 3 := by rw [List.take_append_of_le_length hc.1]
    rw [e3, if_pos (by rw [List.length_append]; omega)]
    simp only [Option.some.injEq, Prod.mk.injEq]
    rw [List.drop_append_of_le_length hc.1, List.drop_append_of_le_length hc.2, List.take_append_of_le_length (by rw [List.length_drop]; omega)]
    exact ⟨h.1, by rw [h.2]⟩
  · cases h
/-- page by page, or at once -/
theorem partR_more (y : List UInt8) : ∀ (n : Nat) (l : List UInt8), l.length ≤ n → partR (l ++ y) = ((partR l).1 ++ (partR ((partR l).2 ++ y)).1, (partR ((partR l).2 ++ y)).2) := by
  intro n
  induction n with
  | zero =>
    intro l hl
    have : l = [] := List.eq_nil_of_length_eq_zero (by omega)
    subst this
    have e : partR [] = ([], []) := partR_none (by unfold oneR; simp)
    rw [e]; rfl
  | succ n ih =>
    intro l hl
    cases h : oneR l with
    | none => rw [partR_none h]; rfl
    | some v =>
      obtain ⟨r, x⟩ := v
      have hx := oneR_less h
      rw [partR_some h, partR_some (oneR_more y h), ih x (by omega)]
      rfl
/-- what was written is read -/
theorem oneR_put (s x : List UInt8) (h : s.length < 16777216) : oneR (recL s ++ x) = some (s, x) := by
  unfold oneR recL
  have h3 : (Lib.leBytes 3 s.length).length = 3 := Lib.leBytes_length _ _
  have e1 : (Lib.leBytes 3 s.length ++ s ++ x).take 3 = Lib.leBytes 3 s.length := by rw [List.append_assoc]; exact List.take_left' h3
  have e2 : Lib.leNat (Lib.leBytes 3 s.length) = s.length := Lib.leNat_leBytes _ _ (by rw [show (256 : Nat) ^ 3 = 16777216 from rfl]; exact h)
  rw [e1, e2, if_pos (by rw [List.length_append, List.length_append, h3]; omega)]
  simp only [Option.some.injEq, Prod.mk.injEq]
  constructor
  · rw [List.append_assoc, List.drop_left' h3, List.take_left' rfl]
  · exact List.drop_left' (by rw [List.length_append, h3])
theorem partR_put (l : List (List UInt8)) (hl : ∀ s ∈ l, s.length < 16777216) : ∀ x, partR (recsL l ++ x) = (l ++ (partR x).1, (partR x).2) := by
  induction l with
  | nil => intro x; rfl
  | cons s l ih =>
    intro x
    rw [recsL_cons, List.append_assoc, partR_some (oneR_put s _ (hl s (List.mem_cons_self ..))), ih (fun t ht => hl t (List.mem_cons_of_mem _ ht))]
    rfl
theorem partR_all (l : List (List UInt8)) (hl : ∀ s ∈ l, s.length < 16777216) : partR (recsL l) = (l, []) := by
  have := partR_put l hl []
  rw [List.append_nil, show partR [] = ([], []) from partR_none (by unfold oneR; simp)] at this
  rw [this, List.append_nil]
/-- bytes of which the end lacks: the first records, and not one that was not there -/
theorem partR_prefix (l : List (List UInt8)) (hl : ∀ s ∈ l, s.length < 16777216) (p y : List UInt8) (h : recsL l = p ++ y) : ∃ t x, t ≤ l.length ∧ partR p = (l.take t, x) ∧ recsL (l.take t) ++ x = p := by
  induction l generalizing p with
  | nil =>
    have : p = [] := by rw [recsL_nil] at h; exact (List.append_eq_nil_iff.1 h.symm).1
    subst this
    exact ⟨0, [], Nat.le_refl _, partR_none (by unfold oneR; simp), rfl⟩
  | cons s l ih =>
    by_cases hp : (recL s).length ≤ p.length
    · have e : p = recL s ++ p.drop (recL s).length := by
        have h1 := congrArg (List.take (recL s).length) h
        rw [recsL_cons, List.take_left' rfl, List.take_append_of_le_length hp] at h1
        have h2 := List.take_append_drop (recL s).length p
        rw [← h1] at h2
        exact h2.symm
      obtain ⟨t, x, ht, h2, h3⟩ := ih (fun u hu => hl u (List.mem_cons_of_mem _ hu)) (p.drop (recL s).length) (by
        have h1 := congrArg (List.drop (recL s).length) h
        rw [recsL_cons, List.drop_left' rfl, List.drop_append_of_le_length hp] at h1
        exact h1)
      refine ⟨t + 1, x, by simpa using ht, ?_, ?_⟩
      · rw [e, partR_some (oneR_put s _ (hl s (List.mem_cons_self ..))), h2]; rfl
      · rw [List.take_succ_cons, recsL_cons, List.append_assoc, h3]; exact e.symm
    · refine ⟨0, p, Nat.zero_le _, partR_none ?_, rfl⟩
      have hlen := recL_length s
      unfold oneR
      rw [if_neg]
      rintro ⟨h3, h4⟩
      have e3 : p.take 3 = Lib.leBytes 3 s.length := by
        have h1 := congrArg (List.take 3) h
        rw [List.take_append_of_le_length h3, recsL_cons] at h1
        rw [← h1, recL, List.append_assoc]
        exact List.take_left' (Lib.leBytes_length _ _)
      rw [e3, Lib.leNat_leBytes _ _ (by rw [show (256 : Nat) ^ 3 = 16777216 from rfl]; exact hl s (List.mem_cons_self ..))] at h4
      omega
end Go.Proofs.Ythjlbfijfpfohaa

namespace Go.Proofs.Ythjlbfijfpfohaa

/-- the name at a leaf's both ends: its age, its number -/
def nameL (age num : Nat) : List UInt8 := Lib.leBytes 6 age ++ Lib.leBytes 2 num
theorem nameL_length (age num : Nat) : (nameL age num).length = 8 := by simp [nameL, Lib.leBytes_length]
/-- a leaf's 252 bytes -/
def leafL (age num : Nat) (beg : Bool) (s : List UInt8) : List UInt8 :=
  nameL age num ++ ((if beg then 1 else 0) :: s.length.toUInt8 :: (s ++ List.replicate (234 - s.length) 0) ++ nameL age num)
theorem leafL_length (age num : Nat) (beg : Bool) (s : List UInt8) (h : s.length ≤ 234) : (leafL age num beg s).length = 252 := by
  simp [leafL, nameL_length]; omega
/-- the numbers that stand where a leaf has its age -/
def tagA (l : List UInt8) : Nat := Lib.leNat (l.take 6)
def tagB (l : List UInt8) : Nat := Lib.leNat ((l.drop 244).take 6)
structure LeafP where
  age : Nat
  beg : Bool
  s : List UInt8
/-- the leaf that 252 bytes are, as page i of a half -/
def leafR (l : List UInt8) (i : Nat) : Option LeafP :=
  if 1 ≤ tagA l ∧ Lib.leNat ((l.drop 6).take 2) = i ∧ (l.getD 8 0).toNat ≤ 1 ∧ (l.getD 9 0).toNat ≤ 234 ∧ l.take 8 = l.drop 244 then
    some ⟨tagA l, decide ((l.getD 8 0).toNat = 1), (l.drop 10).take (l.getD 9 0).toNat⟩
  else none
theorem tag_name (l : List UInt8) (h : l.take 8 = l.drop 244) : tagA l = tagB l := by
  unfold tagA tagB
  have : (l.take 8).take 6 = (l.drop 244).take 6 := by rw [h]
  rw [List.take_take] at this
  simpa using congrArg Lib.leNat this
/-- a leaf's both ages are the same -/
theorem leafR_tags {l : List UInt8} {i : Nat} {x : LeafP} (h : leafR l i = some x) : tagA l = x.age ∧ tagB l = x.age ∧ 1 ≤ x.age ∧ x.s.length ≤ 234 := by
  unfold leafR at h
  split at h
  · rename_i hc
    simp only [Option.some.injEq] at h
    subst h
    refine ⟨rfl, (tag_name l hc.2.2.2.2).symm, hc.1, ?_⟩
    simp only [List.length_take]
    omega
  · cases h
theorem leafR_torn {l : List UInt8} {i : Nat} (h : tagA l ≠ tagB l) : leafR l i = none := by
  cases hr : leafR l i with
  | none => rfl
  | some x => obtain ⟨a, b, _⟩ := leafR_tags hr; exact absurd (a.trans b.symm) h
section
variable (age num : Nat) (beg : Bool) (s : List UInt8)
theorem leafL_take8 : (leafL age num beg s).take 8 = nameL age num := by unfold leafL; exact List.take_left' (nameL_length _ _)
theorem leafL_drop8 : (leafL age num beg s).drop 8 = (if beg then 1 else 0) :: s.length.toUInt8 :: (s ++ List.replicate (234 - s.length) 0) ++ nameL age num := by unfold leafL; exact List.drop_left' (nameL_length _ _)
theorem leafL_tagA (h : age < 281474976710656) : tagA (leafL age num beg s) = age := by
  unfold tagA
  have e : (leafL age num beg s).take 6 = Lib.leBytes 6 age := by
    unfold leafL nameL; rw [List.append_assoc]; exact List.take_left' (Lib.leBytes_length _ _)
  rw [e]; exact Lib.leNat_leBytes _ _ (by rw [show (256 : Nat) ^ 6 = 281474976710656 from rfl]; exact h)
theorem leafL_drop244 (hs : s.length ≤ 234) : (leafL age num beg s).drop 244 = nameL age num := by
  rw [show (244 : Nat) = 8 + 236 from rfl, ← List.drop_drop, leafL_drop8]
  exact List.drop_left' (by simp; omega)
theorem leafL_tagB (hs : s.length ≤ 234) (h : age < 281474976710656) : tagB (leafL age num beg s) = age := by
  exact (tag_name _ (by rw [leafL_take8, leafL_drop244 age num beg s hs])).symm.trans (leafL_tagA age num beg s h)
theorem leafR_leafL (hs : s.length ≤ 234) (h1 : 1 ≤ age) (h : age < 281474976710656) (hn : num < 65536) : leafR (leafL age num beg s) num = some ⟨age, beg, s⟩ := by
  have e8 : (leafL age num beg s).getD 8 0 = if beg then 1 else 0 := by
    have := congrArg (fun l => l.getD 0 0) (leafL_drop8 age num beg s)
    simpa [List.getD_eq_getElem?_getD] using this
  have e9 : (leafL age num beg s).getD 9 0 = s.length.toUInt8 := by
    have := congrArg (fun l => l.getD 1 0) (leafL_drop8 age num beg s)
    simpa [List.getD_eq_getElem?_getD] using this
  have e6 : ((leafL age num beg s).drop 6).take 2 = Lib.leBytes 2 num := by
    unfold leafL nameL
    rw [List.append_assoc, List.drop_left' (Lib.leBytes_length _ _)]
    exact List.take_left' (Lib.leBytes_length _ _)
  have e10 : (leafL age num beg s).drop 10 = s ++ List.replicate (234 - s.length) 0 ++ nameL age num := by
    rw [show (10 : Nat) = 8 + 2 from rfl, ← List.drop_drop, leafL_drop8]; rfl
  have l9 : (s.length.toUInt8).toNat = s.length := by rw [Nat.toUInt8, UInt8.toNat_ofNat', Nat.mod_eq_of_lt (by omega)]
  unfold leafR
  rw [leafL_tagA age num beg s h, e6, e8, e9, l9, e10, leafL_take8, leafL_drop244 age num beg s hs, Lib.leNat_leBytes _ _ (by rw [show (256 : Nat) ^ 2 = 65536 from rfl]; exact hn)]
  rw [if_pos ⟨h1, rfl, by cases beg <;> decide, hs, rfl⟩, List.append_assoc, List.take_left' rfl]
  cases beg <;> rfl
end
end Go.Proofs.Ythjlbfijfpfohaa

namespace Go.Proofs.Ythjlbfijfpfohaa

/-- how far a half was gone through: the last age, what is no whole record yet, the records, the pages -/
structure ScS where
  last : Nat
  left : List UInt8
  out : List (List UInt8)
  n : Nat
def stepS (s : ScS) : Option LeafP → Option ScS
  | none => none
  | some x => if x.age < s.last ∨ (s.last < x.age ∧ x.beg = false) then none
    else some ⟨x.age, (partR ((if s.last < x.age then [] else s.left) ++ x.s)).2, s.out ++ (partR ((if s.last < x.age then [] else s.left) ++ x.s)).1, s.n + 1⟩
def runS (s : ScS) : List (Option LeafP) → ScS
  | [] => s
  | x :: t => match stepS s x with
    | none => s
    | some s' => runS s' t
theorem runS_go {s s' : ScS} {x : Option LeafP} (t : List (Option LeafP)) (h : stepS s x = some s') : runS s (x :: t) = runS s' t := by rw [runS, h]
abbrev scS0 : ScS := ⟨0, [], [], 0⟩
theorem stepS_n {s s' : ScS} {x : Option LeafP} (h : stepS s x = some s') : s'.n = s.n + 1 ∧ ∃ y, x = some y ∧ s'.last = y.age := by
  cases x with
  | none => cases h
  | some y =>
    simp only [stepS] at h
    split at h
    · cases h
    · cases h; exact ⟨rfl, y, rfl, rfl⟩
theorem runS_n : ∀ (L : List (Option LeafP)) (s : ScS), s.n ≤ (runS s L).n ∧ (runS s L).n ≤ s.n + L.length
  | [], s => ⟨Nat.le_refl _, Nat.le_refl _⟩
  | x :: t, s => by
    unfold runS
    cases h : stepS s x with
    | none => exact ⟨Nat.le_refl _, by simp⟩
    | some s' =>
      have h1 := (stepS_n h).1
      have h2 := runS_n t s'
      simp only [List.length_cons]
      exact ⟨by omega, by omega⟩
/-- the pages that were gone through, alone, tell the same -/
theorem runS_take : ∀ (L : List (Option LeafP)) (s : ScS), runS s (L.take ((runS s L).n - s.n)) = runS s L
  | [], s => by simp
  | x :: t, s => by
    cases h : stepS s x with
    | none => have e : runS s (x :: t) = s := by unfold runS; rw [h]
              rw [e, Nat.sub_self]; rfl
    | some s' =>
      have e : runS s (x :: t) = runS s' t := by rw [runS, h]
      have h1 := (stepS_n h).1
      have h2 := runS_n t s'
      rw [e, show (runS s' t).n - s.n = ((runS s' t).n - s'.n) + 1 by omega, List.take_succ_cons]
      rw [runS, h]
      exact runS_take t s'
/-- and behind them it stops -/
theorem runS_stop : ∀ (L : List (Option LeafP)) (s : ScS) (x : Option LeafP), L[(runS s L).n - s.n]? = some x → stepS (runS s L) x = none
  | [], s, x, h => by simp at h
  | y :: t, s, x, h => by
    cases hs : stepS s y with
    | none =>
      have e : runS s (y :: t) = s := by unfold runS; rw [hs]
      rw [e, Nat.sub_self] at h
      simp at h
      rw [e, ← h]; exact hs
    | some s' =>
      have e : runS s (y :: t) = runS s' t := by rw [runS, hs]
      have h1 := (stepS_n hs).1
      have h2 := runS_n t s'
      rw [e, show (runS s' t).n - s.n = ((runS s' t).n - s'.n) + 1 by omega] at h
      rw [e]
      exact runS_stop t s' x (by simpa using h)
theorem runS_append : ∀ (A B : List (Option LeafP)) (s : ScS), (runS s A).n = s.n + A.length → runS s (A ++ B) = runS (runS s A) B
  | [], B, s, _ => rfl
  | x :: t, B, s, h => by
    cases hs : stepS s x with
    | none =>
      have e : runS s (x :: t) = s := by unfold runS; rw [hs]
      rw [e] at h; simp at h
    | some s' =>
      have e : runS s (x :: t) = runS s' t := by rw [runS, hs]
      have h1 := (stepS_n hs).1
      rw [e] at h
      rw [e, List.cons_append, runS, hs]
      exact runS_append t B s' (by simp at h; omega)
theorem runS_last : ∀ (L : List (Option LeafP)) (s : ScS) (A : Nat), s.last < A → (∀ x, some x ∈ L → x.age < A) → (runS s L).last < A
  | [], s, A, h, _ => h
  | y :: t, s, A, h, ha => by
    cases hs : stepS s y with
    | none => have e : runS s (y :: t) = s := by unfold runS; rw [hs]
              rw [e]; exact h
    | some s' =>
      have e : runS s (y :: t) = runS s' t := by rw [runS, hs]
      obtain ⟨_, z, rfl, hz⟩ := stepS_n hs
      rw [e]
      exact runS_last t s' A (by rw [hz]; exact ha z (List.mem_cons_self ..)) (fun x hx => ha x (List.mem_cons_of_mem _ hx))
/-- leaves of one age, one behind the other: their bytes at once -/
theorem runS_same (A : Nat) (R : List (List UInt8)) : ∀ (cs : List (Bool × List UInt8)) (X : List UInt8) (n : Nat),
    runS ⟨A, (partR X).2, R ++ (partR X).1, n⟩ (cs.map fun c => some ⟨A, c.1, c.2⟩) = ⟨A, (partR (X ++ (cs.map (·.2)).flatten)).2, R ++ (partR (X ++ (cs.map (·.2)).flatten)).1, n + cs.length⟩
  | [], X, n => by simp [runS]
  | c :: cs, X, n => by
    rw [List.map_cons]
    have e : stepS ⟨A, (partR X).2, R ++ (partR X).1, n⟩ (some ⟨A, c.1, c.2⟩) = some ⟨A, (partR (X ++ c.2)).2, R ++ (partR (X ++ c.2)).1, n + 1⟩ := by
      simp only [stepS]
      rw [if_neg (by simp), if_neg (Nat.lt_irrefl _), partR_more c.2 X.length X (Nat.le_refl _), List.append_assoc]
    have ih := runS_same A R cs (X ++ c.2) (n + 1)
    rw [runS_go _ e, ih]
    simp only [List.map_cons, List.flatten_cons, List.append_assoc, List.length_cons]
    rw [show n + 1 + cs.length = n + (cs.length + 1) by omega]
/-- new leaves of a greater age, the first one where a record begins -/
theorem runS_new (s : ScS) (A : Nat) (hA : s.last < A) (c : List UInt8) (cs : List (Bool × List UInt8)) :
    runS s ((some ⟨A, true, c⟩ : Option LeafP) :: cs.map fun c => some ⟨A, c.1, c.2⟩) = ⟨A, (partR (c ++ (cs.map (·.2)).flatten)).2, s.out ++ (partR (c ++ (cs.map (·.2)).flatten)).1, s.n + (cs.length + 1)⟩ := by
  have e : stepS s (some ⟨A, true, c⟩) = some ⟨A, (partR c).2, s.out ++ (partR c).1, s.n + 1⟩ := by
    simp only [stepS]
    rw [if_neg (by rintro (h | ⟨_, h⟩); · omega
                   · cases h), if_pos hA, List.nil_append]
  have := runS_same A s.out cs c (s.n + 1)
  rw [runS_go _ e, this, show s.n + 1 + cs.length = s.n + (cs.length + 1) by omega]
/-- a page that is no leaf, or one of a smaller age, stops it -/
theorem stepS_old (s : ScS) (x : Option LeafP) (h : ∀ y, x = some y → y.age < s.last) : stepS s x = none := by
  cases x with
  | none => rfl
  | some y => simp only [stepS]; rw [if_pos (.inl (h y rfl))]
theorem runS_stopped (s : ScS) (x : Option LeafP) (t : List (Option LeafP)) (h : stepS s x = none) : runS s (x :: t) = s := by unfold runS; rw [h]
/-- a half gone through, behind the first ones of new leaves: the rest are no leaves, or old ones -/
theorem scan_new (L : List (Option LeafP)) (A : Nat) (c : List UInt8) (cs : List (Bool × List UInt8)) (rest : List (Option LeafP)) (hA : 0 < A) (hold : ∀ x, some x ∈ L → x.age < A) (hr : ∀ y, rest.head? = some (some y) → y.age < A) :
    runS scS0 (L.take (runS scS0 L).n ++ ((some ⟨A, true, c⟩ : Option LeafP) :: cs.map (fun c => some ⟨A, c.1, c.2⟩)) ++ rest) =
      ⟨A, (partR (c ++ (cs.map (·.2)).flatten)).2, (runS scS0 L).out ++ (partR (c ++ (cs.map (·.2)).flatten)).1, (runS scS0 L).n + (cs.length + 1)⟩ := by
  have e0 := runS_take L scS0
  have e0' : runS scS0 (L.take (runS scS0 L).n) = runS scS0 L := by simpa using e0
  have hn := (runS_n L scS0).2
  have hlen : (L.take (runS scS0 L).n).length = (runS scS0 L).n := by rw [List.length_take]; simp at hn; omega
  have hlast := runS_last L scS0 A hA hold
  rw [List.append_assoc, runS_append _ _ _ (by rw [e0', hlen]; simp), e0']
  have e1 := runS_new (runS scS0 L) A hlast c cs
  rw [runS_append _ _ _ (by rw [e1]; simp), e1]
  cases rest with
  | nil => rfl
  | cons x t => exact runS_stopped _ _ _ (stepS_old _ _ (fun y hy => hr y (by rw [hy]; rfl)))
/-- .. and behind none of them -/
theorem scan_old (L rest : List (Option LeafP)) (hr : ∀ x, rest.head? = some x → x = none ∨ L[(runS scS0 L).n]? = some x) : runS scS0 (L.take (runS scS0 L).n ++ rest) = runS scS0 L := by
  have e0' : runS scS0 (L.take (runS scS0 L).n) = runS scS0 L := by simpa using runS_take L scS0
  have hn := (runS_n L scS0).2
  have hlen : (L.take (runS scS0 L).n).length = (runS scS0 L).n := by rw [List.length_take]; simp at hn; omega
  rw [runS_append _ _ _ (by rw [e0', hlen]; simp), e0']
  cases rest with
  | nil => rfl
  | cons x t =>
    refine runS_stopped _ _ _ ?_
    rcases hr x rfl with rfl | h
    · rfl
    · exact runS_stop L scS0 x (by simpa using h)
end Go.Proofs.Ythjlbfijfpfohaa

namespace Go.Proofs.Ythjlbfijfpfohaa

/-- how many pages so many bytes take -/
def needOf (n : Nat) : Nat := (n + 233) / 234
def chunks (l : List UInt8) : List (List UInt8) := if _h : l = [] then [] else l.take 234 :: chunks (l.drop 234)
termination_by l.length
decreasing_by
  have : 0 < l.length := by cases l with
    | nil => exact absurd rfl _h
    | cons x t => simp
  rw [List.length_drop]; omega
theorem chunks_nil : chunks [] = [] := by rw [chunks]; simp
theorem chunks_cons {l : List UInt8} (h : l ≠ []) : chunks l = l.take 234 :: chunks (l.drop 234) := by rw [chunks]; simp [h]
theorem len_pos {l : List UInt8} (h : l ≠ []) : 0 < l.length := by
  cases l with
  | nil => exact absurd rfl h
  | cons x t => simp
theorem chunks_all : ∀ (n : Nat) (l : List UInt8), l.length ≤ n → (chunks l).flatten = l ∧ (chunks l).length = needOf l.length ∧ (∀ c ∈ chunks l, c.length ≤ 234 ∧ c ≠ []) ∧ ∀ i, (chunks l)[i]? = if i < needOf l.length then some ((l.drop (234 * i)).take 234) else none := by
  intro n
  induction n with
  | zero =>
    intro l hl
    have : l = [] := List.eq_nil_of_length_eq_zero (by omega)
    subst this
    rw [chunks_nil]
    exact ⟨rfl, rfl, fun c hc => by simp at hc, fun i => by simp [needOf]⟩
  | succ n ih =>
    intro l hl
    by_cases h : l = []
    · subst h
      rw [chunks_nil]
      exact ⟨rfl, rfl, fun c hc => by simp at hc, fun i => by simp [needOf]⟩
    · have hp := len_pos h
      obtain ⟨h1, h2, h3, h4⟩ := ih (l.drop 234) (by rw [List.length_drop]; omega)
      rw [chunks_cons h]
      have hneed : needOf l.length = needOf (l.drop 234).length + 1 := by unfold needOf; rw [List.length_drop]; omega
      refine ⟨by rw [List.flatten_cons, h1, List.take_append_drop], by rw [List.length_cons, h2, hneed], ?_, ?_⟩
      · intro c hc
        rcases List.mem_cons.1 hc with rfl | hc
        · refine ⟨by rw [List.length_take]; omega, fun e => ?_⟩
          have h0 : (l.take 234).length = 0 := by rw [e]; rfl
          rw [List.length_take] at h0; omega
        · exact h3 c hc
      · intro i
        cases i with
        | zero => rw [if_pos (by rw [hneed]; exact Nat.succ_pos _)]; simp
        | succ i =>
          rw [List.getElem?_cons_succ, h4 i, hneed]
          by_cases hi : i < needOf (l.drop 234).length
          · rw [if_pos hi, if_pos (Nat.succ_lt_succ hi), List.drop_drop, show 234 + 234 * i = 234 * (i + 1) by omega]
          · rw [if_neg hi, if_neg (fun h => hi (Nat.lt_of_succ_lt_succ h))]
theorem chunks_flatten (l : List UInt8) : (chunks l).flatten = l := (chunks_all l.length l (Nat.le_refl _)).1
theorem chunks_length (l : List UInt8) : (chunks l).length = needOf l.length := (chunks_all l.length l (Nat.le_refl _)).2.1
theorem chunks_small (l : List UInt8) : ∀ c ∈ chunks l, c.length ≤ 234 := fun c hc => ((chunks_all l.length l (Nat.le_refl _)).2.2.1 c hc).1
theorem chunks_get (l : List UInt8) (i : Nat) (h : i < needOf l.length) : (chunks l)[i]? = some ((l.drop (234 * i)).take 234) := by rw [(chunks_all l.length l (Nat.le_refl _)).2.2.2 i, if_pos h]
/-- what one Write lays: at the first one's beginning a record begins -/
def laid (l : List UInt8) : List (Bool × List UInt8) := (chunks l).mapIdx fun i c => (decide (i = 0), c)
theorem laid_length (l : List UInt8) : (laid l).length = needOf l.length := by simp [laid, chunks_length]
theorem laid_bytes (l : List UInt8) : ((laid l).map (·.2)).flatten = l := by
  have : (laid l).map (·.2) = chunks l := by
    unfold laid
    apply List.ext_getElem?
    intro i
    rw [List.getElem?_map, List.getElem?_mapIdx, Option.map_map]
    cases (chunks l)[i]? <;> rfl
  rw [this, chunks_flatten]
theorem laid_first (l : List UInt8) (c : Bool × List UInt8) (h : (laid l).head? = some c) : c.1 = true := by
  unfold laid at h
  cases hc : chunks l with
  | nil => rw [hc] at h; simp at h
  | cons x t => rw [hc] at h; simp at h; rw [← h]
/-- what the writes of one age lay, one behind the other -/
def laidAll (ws : List (List (List UInt8))) : List (Bool × List UInt8) := ws.flatMap fun w => laid (recsL w)
theorem laidAll_bytes (ws : List (List (List UInt8))) : ((laidAll ws).map (·.2)).flatten = recsL ws.flatten := by
  induction ws with
  | nil => rfl
  | cons w ws ih =>
    rw [laidAll, List.flatMap_cons, List.map_append, List.flatten_append, laid_bytes]
    rw [List.flatten_cons, recsL_append]
    exact congrArg _ ih
theorem laidAll_append (a b : List (List (List UInt8))) : laidAll (a ++ b) = laidAll a ++ laidAll b := by simp [laidAll]
theorem laidAll_first (ws : List (List (List UInt8))) : ∀ c, (laidAll ws).head? = some c → c.1 = true := by
  induction ws with
  | nil => intro c h; simp [laidAll] at h
  | cons w ws ih =>
    intro c h
    rw [laidAll, List.flatMap_cons] at h
    cases hl : laid (recsL w) with
    | nil => rw [hl, List.nil_append] at h; exact ih c h
    | cons x t =>
      rw [hl] at h
      exact laid_first (recsL w) c (by rw [hl]; simpa using h)
/-- of the first ones of the parts: the first ones of the records, and all those whose parts are all there -/
theorem laid_prefix (ws : List (List (List UInt8))) (hs : ∀ s ∈ ws.flatten, s.length < 16777216) (a b : List (List (List UInt8))) (hab : ws = a ++ b) (j : Nat) (hj : (laidAll a).length ≤ j) :
    ∃ t, a.flatten.length ≤ t ∧ t ≤ ws.flatten.length ∧ (partR (((laidAll ws).take j).map (·.2)).flatten).1 = ws.flatten.take t := by
  have e1 : (((laidAll ws).take j).map (·.2)).flatten ++ (((laidAll ws).drop j).map (·.2)).flatten = recsL ws.flatten := by
    rw [← List.flatten_append, ← List.map_append, List.take_append_drop, laidAll_bytes]
  have e2 : (laidAll ws).take j = laidAll a ++ (laidAll b).take (j - (laidAll a).length) := by
    rw [hab, laidAll_append, List.take_append, List.take_of_length_le hj]
  obtain ⟨t, x, ht, h1, h2⟩ := partR_prefix ws.flatten hs _ _ e1.symm
  refine ⟨t, ?_, ht, by rw [h1]⟩
  -- all of a's records are there
  have h3 := partR_put a.flatten (fun s h => hs s (by rw [hab, List.flatten_append]; exact List.mem_append_left _ h)) ((((laidAll b).take (j - (laidAll a).length)).map (·.2)).flatten)
  have e3 : (((laidAll ws).take j).map (·.2)).flatten = recsL a.flatten ++ (((laidAll b).take (j - (laidAll a).length)).map (·.2)).flatten := by
    rw [e2, List.map_append, List.flatten_append, laidAll_bytes]
  rw [e3, h3] at h1
  have h4 := congrArg (fun p => p.1.length) h1
  simp only [List.length_append, List.length_take] at h4
  omega
end Go.Proofs.Ythjlbfijfpfohaa

namespace Go.Proofs.Ythjlbfijfpfohaa

abbrev Lfs := List (Option LeafP)
def lvs (A : Nat) (cs : List (Bool × List UInt8)) : Lfs := cs.map fun c => some ⟨A, c.1, c.2⟩
theorem lvs_length (A : Nat) (cs : List (Bool × List UInt8)) : (lvs A cs).length = cs.length := by simp [lvs]
/-- how many of the first ones are there -/
def aheadN (A : Nat) : List (Bool × List UInt8) → Lfs → Nat
  | c :: cs, some x :: L => if x.age = A ∧ x.beg = c.1 ∧ x.s = c.2 then aheadN A cs L + 1 else 0
  | _, _ => 0
theorem aheadN_le (A : Nat) : ∀ (cs : List (Bool × List UInt8)) (L : Lfs), aheadN A cs L ≤ cs.length
  | [], _ => by simp [aheadN]
  | _ :: _, [] => by simp [aheadN]
  | _ :: _, none :: _ => by simp [aheadN]
  | c :: cs, some x :: L => by
    unfold aheadN
    split
    · have := aheadN_le A cs L; simp; omega
    · omega
theorem aheadN_split (A : Nat) : ∀ (cs : List (Bool × List UInt8)) (L : Lfs), L = lvs A (cs.take (aheadN A cs L)) ++ L.drop (aheadN A cs L)
  | [], _ => by simp [aheadN, lvs]
  | _ :: _, [] => by simp [aheadN, lvs]
  | _ :: _, none :: _ => by simp [aheadN, lvs]
  | c :: cs, some x :: L => by
    unfold aheadN
    split
    · rename_i h
      have ih := aheadN_split A cs L
      obtain ⟨xa, xb, xs⟩ := x
      obtain ⟨rfl, rfl, rfl⟩ := h
      simp only [List.take_succ_cons, lvs, List.map_cons, List.cons_append, List.drop_succ_cons]
      exact congrArg _ ih
    · simp [lvs]
theorem aheadN_ge (A : Nat) : ∀ (cs : List (Bool × List UInt8)) (L : Lfs) (k : Nat), k ≤ cs.length → (∀ i c, i < k → cs[i]? = some c → L[i]? = some (some ⟨A, c.1, c.2⟩)) → k ≤ aheadN A cs L
  | _, _, 0, _, _ => Nat.zero_le _
  | [], _, k + 1, h, _ => by simp at h
  | c :: cs, L, k + 1, hk, h => by
    have h0 := h 0 c (by omega) rfl
    match L, h0 with
    | x :: L, h0 =>
      simp at h0
      subst h0
      unfold aheadN
      rw [if_pos ⟨rfl, rfl, rfl⟩]
      have := aheadN_ge A cs L k (by simpa using hk) (fun i d hi hd => by have := h (i + 1) d (by omega) (by simpa using hd); simpa using this)
      omega
/-- the page behind them is not the next one -/
theorem aheadN_next (A : Nat) : ∀ (cs : List (Bool × List UInt8)) (L : Lfs) (c : Bool × List UInt8), cs[aheadN A cs L]? = some c → L[aheadN A cs L]? ≠ some (some ⟨A, c.1, c.2⟩)
  | [], _, _, h => by simp at h
  | d :: cs, [], c, h => by simp
  | d :: cs, none :: L, c, h => by simp [aheadN]
  | d :: cs, some x :: L, c, h => by
    unfold aheadN at h ⊢
    split
    · rename_i hx
      rw [if_pos hx] at h
      have := aheadN_next A cs L c (by simpa using h)
      simpa using this
    · rename_i hx
      rw [if_neg hx] at h
      simp at h
      subst h
      intro e
      simp at e
      subst e
      exact hx ⟨rfl, rfl, rfl⟩
theorem laid_empty (a : List (List (List UInt8))) (h : laidAll a = []) : a.flatten = [] := by
  have h1 := laidAll_bytes a
  rw [h] at h1
  cases hf : a.flatten with
  | nil => rfl
  | cons s l =>
    rw [hf, recsL_cons] at h1
    have := congrArg List.length h1
    rw [List.length_append, recL_length] at this
    simp at this; omega
/-- behind a crash -/
theorem safe_half (L0 LC : Lfs) (A : Nat) (ws a b : List (List (List UInt8))) (hab : ws = a ++ b) (hA : 0 < A) (hold : ∀ x, some x ∈ L0 → x.age < A) (hs : ∀ s ∈ ws.flatten, s.length < 16777216) (hlen : LC.length = L0.length)
    (h1 : ∀ i, i < (runS scS0 L0).n → LC[i]? = L0[i]?)
    (h2 : ∀ i c, i < (laidAll a).length → (laidAll ws)[i]? = some c → LC[(runS scS0 L0).n + i]? = some (some ⟨A, c.1, c.2⟩))
    (h3 : ∀ i c, (laidAll ws)[i]? = some c → LC[(runS scS0 L0).n + i]? = some (some ⟨A, c.1, c.2⟩) ∨ LC[(runS scS0 L0).n + i]? = some none ∨ LC[(runS scS0 L0).n + i]? = L0[(runS scS0 L0).n + i]?)
    (h4 : ∀ i, (laidAll ws).length ≤ i → LC[(runS scS0 L0).n + i]? = L0[(runS scS0 L0).n + i]?) :
    ∃ t, a.flatten.length ≤ t ∧ t ≤ ws.flatten.length ∧ (runS scS0 LC).out = (runS scS0 L0).out ++ ws.flatten.take t ∧ ((runS scS0 LC).out = (runS scS0 L0).out ∨ (runS scS0 LC).last = A) := by
  have hn0 := (runS_n L0 scS0).2
  generalize hp0 : (runS scS0 L0).n = p0 at *
  have hp : p0 ≤ L0.length := by simp at hn0; omega
  obtain ⟨D, hD⟩ : ∃ D, LC.drop p0 = D := ⟨_, rfl⟩
  have hget : ∀ i, D[i]? = LC[p0 + i]? := fun i => by rw [← hD, List.getElem?_drop]
  have etake : LC.take p0 = L0.take p0 := by
    apply List.ext_getElem?
    intro i
    by_cases hi : i < p0
    · rw [List.getElem?_take_of_lt hi, List.getElem?_take_of_lt hi, h1 i hi]
    · rw [List.getElem?_eq_none (by rw [List.length_take]; omega), List.getElem?_eq_none (by rw [List.length_take]; omega)]
  obtain ⟨j, hj⟩ : ∃ j, aheadN A (laidAll ws) D = j := ⟨_, rfl⟩
  have hjle := aheadN_le A (laidAll ws) D
  have hsplit := aheadN_split A (laidAll ws) D
  have hnext := aheadN_next A (laidAll ws) D
  have hge := aheadN_ge A (laidAll ws) D (laidAll a).length (by rw [hab, laidAll_append, List.length_append]; omega) (fun i c hi hc => by rw [hget]; exact h2 i c hi hc)
  rw [hj] at hjle hsplit hnext hge
  have eLC : LC = L0.take p0 ++ (lvs A ((laidAll ws).take j) ++ D.drop j) := by rw [← hsplit, ← etake, ← hD, List.take_append_drop]
  -- the page behind the new ones
  have hhead : ∀ x, (D.drop j).head? = some x → x = none ∨ L0[p0 + j]? = some x := fun x hx => by
    have hx' : LC[p0 + j]? = some x := by rw [← hget]; rw [List.head?_drop] at hx; exact hx
    by_cases hjl : j < (laidAll ws).length
    · obtain ⟨c, hc⟩ : ∃ c, (laidAll ws)[j]? = some c := ⟨_, List.getElem?_eq_getElem hjl⟩
      rcases h3 j c hc with h | h | h
      · exact absurd (by rw [hget]; exact h) (hnext c hc)
      · rw [hx'] at h; exact .inl (by simpa using h)
      · rw [hx'] at h; exact .inr h.symm
    · rw [h4 j (by omega)] at hx'; exact .inr hx'
  cases hj0 : (laidAll ws).take j with
  | nil =>
    have ha0 : laidAll a = [] := by
      have : j = 0 ∨ (laidAll ws) = [] := by
        cases j with
        | zero => exact .inl rfl
        | succ j => exact .inr (by
            cases hl : laidAll ws with
            | nil => rfl
            | cons x t => rw [hl] at hj0; simp at hj0)
      rcases this with h | h
      · subst h; exact List.eq_nil_of_length_eq_zero (by omega)
      · rw [hab, laidAll_append] at h; exact (List.append_eq_nil_iff.1 h).1
    have hj' : j = 0 := by
      have h0 : ((laidAll ws).take j).length = 0 := by rw [hj0]; rfl
      rw [List.length_take] at h0
      omega
    subst hj'
    have e : runS scS0 LC = runS scS0 L0 := by
      rw [eLC, hj0]
      have := scan_old L0 (D.drop 0) (fun x hx => by rw [hp0]; exact hhead x hx)
      rw [hp0] at this
      exact this
    refine ⟨0, by rw [laid_empty a ha0]; exact Nat.le_refl _, Nat.zero_le _, by rw [e]; simp, .inl (by rw [e])⟩
  | cons c cs =>
    have hc1 : c.1 = true := laidAll_first ws c (by
      have : ((laidAll ws).take j).head? = some c := by rw [hj0]; rfl
      cases j with
      | zero => simp at hj0
      | succ j => rw [List.head?_take] at this; simpa using this)
    obtain ⟨c1, c2⟩ := c
    dsimp only at hc1
    subst hc1
    have hsc := scan_new L0 A c2 cs (D.drop j) hA hold (fun y hy => by
      rcases hhead _ hy with h | h
      · cases h
      · exact hold y (List.mem_of_getElem? h))
    rw [hp0, List.append_assoc] at hsc
    have e0 : L0.take p0 ++ (((some ⟨A, true, c2⟩ : Option LeafP) :: cs.map (fun c => some ⟨A, c.1, c.2⟩)) ++ D.drop j) = LC := by rw [eLC, hj0]; rfl
    rw [e0] at hsc
    have eLC2 := hsc
    obtain ⟨t, t1, t2, t3⟩ := laid_prefix ws hs a b hab j hge
    rw [hj0] at t3
    refine ⟨t, t1, t2, ?_, .inr (by rw [eLC2])⟩
    rw [eLC2]
    show _ ++ _ = _ ++ _
    rw [← t3]; rfl
end Go.Proofs.Ythjlbfijfpfohaa

namespace Go.Proofs.Ythjlbfijfpfohaa

abbrev Rcs := List (List UInt8)
def outH (L : Lfs) : Rcs := (runS scS0 L).out
def pgsH (L : Lfs) : Nat := (runS scS0 L).n
/-- a half's age: its page 0's, if a record begins there; 0: it has none -/
def ageH : Lfs → Nat
  | some x :: _ => if x.beg = true then x.age else 0
  | _ => 0
/-- the half that is told, its records, its pages -/
def openH (L0 L1 : Lfs) : Nat × Rcs × Nat :=
  if outH L1 ≠ [] ∧ (outH L0 = [] ∨ ageH L0 < ageH L1) then (1, outH L1, pgsH L1) else (0, outH L0, pgsH L0)
theorem runS_out0 (s : ScS) (L : Lfs) (h : (runS s L).n = s.n) : runS s L = s := by
  cases L with
  | nil => rfl
  | cons x t =>
    cases hs : stepS s x with
    | none => exact runS_stopped _ _ _ hs
    | some s' =>
      have h1 := (stepS_n hs).1
      rw [runS_go t hs] at h
      have := (runS_n t s').1
      omega
theorem out_pos {L : Lfs} (h : outH L ≠ []) : 1 ≤ pgsH L := by
  by_cases h0 : pgsH L = 0
  · have := runS_out0 scS0 L h0
    exact absurd (by unfold outH; rw [this]) h
  · omega
/-- leaves have ages -/
def Aged (L : Lfs) : Prop := ∀ x, some x ∈ L → 1 ≤ x.age
theorem pos_head {L : Lfs} (ha : Aged L) (h : 1 ≤ pgsH L) : ∃ x t, L = some x :: t ∧ x.beg = true ∧ ageH L = x.age ∧ 0 < x.age := by
  unfold pgsH at h
  cases L with
  | nil => simp [runS] at h
  | cons y t =>
    cases hs : stepS scS0 y with
    | none => rw [runS_stopped _ _ _ hs] at h; simp at h
    | some s' =>
      cases y with
      | none => cases hs
      | some x =>
        simp only [stepS] at hs
        split at hs
        · cases hs
        · rename_i hc
          have h1 := ha x (List.mem_cons_self ..)
          have hb : x.beg = true := by
            cases hb : x.beg with
            | true => rfl
            | false => exact absurd (.inr ⟨by show 0 < x.age; omega, hb⟩) hc
          exact ⟨x, t, rfl, hb, by simp [ageH, hb], by omega⟩
/-- more pages, more records -/
theorem runS_mono : ∀ (L : Lfs) (s : ScS) (i : Nat), ∃ m, (runS s L).out = (runS s (L.take i)).out ++ m
  | [], s, i => ⟨[], by simp⟩
  | x :: t, s, 0 => by
    suffices h : ∀ (L : Lfs) (s : ScS), ∃ m, (runS s L).out = s.out ++ m from by simpa [runS] using h (x :: t) s
    intro L
    induction L with
    | nil => intro s; exact ⟨[], by simp [runS]⟩
    | cons y u ih =>
      intro s
      cases hs : stepS s y with
      | none => rw [runS_stopped _ _ _ hs]; exact ⟨[], by simp⟩
      | some s' =>
        rw [runS_go u hs]
        obtain ⟨m, hm⟩ := ih s'
        cases y with
        | none => cases hs
        | some z =>
          simp only [stepS] at hs
          split at hs
          · cases hs
          · cases hs; exact ⟨_, by rw [hm, List.append_assoc]⟩
  | x :: t, s, i + 1 => by
    rw [List.take_succ_cons]
    cases hs : stepS s x with
    | none => rw [runS_stopped _ _ _ hs, runS_stopped _ _ _ hs]; exact ⟨[], by simp⟩
    | some s' => rw [runS_go t hs, runS_go (t.take i) hs]; exact runS_mono t s' i
/-- what was written in an age, and what of it was synced; the half's pages behind a crash -/
structure Fallen (L0 LC : Lfs) (A : Nat) (ws a : List Rcs) : Prop where
  pre : ∃ b, ws = a ++ b
  pos : 0 < A
  old : ∀ x, some x ∈ L0 → x.age < A
  small : ∀ s ∈ ws.flatten, s.length < 16777216
  len : LC.length = L0.length
  same : ∀ i, i < pgsH L0 → LC[i]? = L0[i]?
  sync : ∀ i c, i < (laidAll a).length → (laidAll ws)[i]? = some c → LC[pgsH L0 + i]? = some (some ⟨A, c.1, c.2⟩)
  any : ∀ i c, (laidAll ws)[i]? = some c → LC[pgsH L0 + i]? = some (some ⟨A, c.1, c.2⟩) ∨ LC[pgsH L0 + i]? = some none ∨ LC[pgsH L0 + i]? = L0[pgsH L0 + i]?
  rest : ∀ i, (laidAll ws).length ≤ i → LC[pgsH L0 + i]? = L0[pgsH L0 + i]?
theorem Fallen.out {L0 LC : Lfs} {A : Nat} {ws a : List Rcs} (h : Fallen L0 LC A ws a) : ∃ t, a.flatten.length ≤ t ∧ t ≤ ws.flatten.length ∧ outH LC = outH L0 ++ ws.flatten.take t := by
  obtain ⟨b, hb⟩ := h.pre
  obtain ⟨t, h1, h2, h3, _⟩ := safe_half L0 LC A ws a b hb h.pos h.old h.small h.len h.same h.sync h.any h.rest
  exact ⟨t, h1, h2, h3⟩
theorem Fallen.age {L0 LC : Lfs} {A : Nat} {ws a : List Rcs} (h : Fallen L0 LC A ws a) (hp : 1 ≤ pgsH L0) : ageH LC = ageH L0 := by
  have h0 := h.same 0 (by omega)
  have hl := h.len
  cases L0 with
  | nil => simp [pgsH, runS] at hp
  | cons x t =>
    cases LC with
    | nil => simp at hl
    | cons y u => simp at h0; subst h0; cases y <;> rfl
/-- the half that was told is told again -/
theorem open_again0 {B0 B1 C0 : Lfs} {A : Nat} {ws a : List Rcs} (ho : (openH B0 B1).1 = 0) (h : Fallen B0 C0 A ws a) :
    ∃ t, a.flatten.length ≤ t ∧ t ≤ ws.flatten.length ∧ (openH C0 B1).1 = 0 ∧ (openH C0 B1).2.1 = outH B0 ++ ws.flatten.take t := by
  obtain ⟨t, h1, h2, h3⟩ := h.out
  have hne : ¬ (outH B1 ≠ [] ∧ (outH C0 = [] ∨ ageH C0 < ageH B1)) := by
    rintro ⟨g1, g2⟩
    unfold openH at ho
    split at ho
    · cases ho
    · rename_i hc
      by_cases hb : outH B0 = []
      · exact hc ⟨g1, .inl hb⟩
      · have hp := out_pos hb
        rcases g2 with g2 | g2
        · rw [h3] at g2; exact hb (List.append_eq_nil_iff.1 g2).1
        · rw [h.age hp] at g2; exact hc ⟨g1, .inr g2⟩
  refine ⟨t, h1, h2, ?_, ?_⟩
  · unfold openH; rw [if_neg hne]
  · unfold openH; rw [if_neg hne]; exact h3
theorem open_again1 {B0 B1 C1 : Lfs} {A : Nat} {ws a : List Rcs} (ho : (openH B0 B1).1 = 1) (h : Fallen B1 C1 A ws a) :
    ∃ t, a.flatten.length ≤ t ∧ t ≤ ws.flatten.length ∧ (openH B0 C1).1 = 1 ∧ (openH B0 C1).2.1 = outH B1 ++ ws.flatten.take t := by
  obtain ⟨t, h1, h2, h3⟩ := h.out
  have hc : outH B1 ≠ [] ∧ (outH B0 = [] ∨ ageH B0 < ageH B1) := by
    unfold openH at ho
    split at ho
    · rename_i hc; exact hc
    · cases ho
  have hp := out_pos hc.1
  have hy : outH C1 ≠ [] ∧ (outH B0 = [] ∨ ageH B0 < ageH C1) := by
    refine ⟨fun e => ?_, ?_⟩
    · rw [h3] at e; exact hc.1 (List.append_eq_nil_iff.1 e).1
    · rw [h.age hp]; exact hc.2
  refine ⟨t, h1, h2, ?_, ?_⟩
  · unfold openH; rw [if_pos hy]
  · unfold openH; rw [if_pos hy]; exact h3
end Go.Proofs.Ythjlbfijfpfohaa

namespace Go.Proofs.Ythjlbfijfpfohaa

theorem runS_grows (L : Lfs) (s : ScS) : ∃ m, (runS s L).out = s.out ++ m := by
  obtain ⟨m, hm⟩ := runS_mono L s 0
  exact ⟨m, by simpa [runS] using hm⟩
/-- pages that differ are no leaves, or new ones at whose beginning no record begins: no more is told than was -/
theorem run_diff (A : Nat) : ∀ (C L : Lfs) (s : ScS), s.last < A → (∀ x, some x ∈ L → x.age < A) → C.length = L.length → (∀ k : Nat, C[k]? = L[k]? ∨ C[k]? = some none ∨ ∃ c, C[k]? = some (some ⟨A, false, c⟩)) → ∃ m, (runS s L).out = (runS s C).out ++ m
  | [], L, s, _, _, _, _ => by
    obtain ⟨m, hm⟩ := runS_grows L s
    exact ⟨m, by simpa [runS] using hm⟩
  | x :: C, [], s, _, _, h, _ => by simp at h
  | x :: C, y :: L, s, hs, ha, hl, hd => by
    have h0 := hd 0
    simp only [List.getElem?_cons_zero] at h0
    by_cases hxy : x = y
    · subst hxy
      cases hst : stepS s x with
      | none => rw [runS_stopped _ _ _ hst, runS_stopped _ _ _ hst]; exact ⟨[], by simp⟩
      | some s' =>
        rw [runS_go L hst, runS_go C hst]
        obtain ⟨_, z, rfl, hz⟩ := stepS_n hst
        exact run_diff A C L s' (by rw [hz]; exact ha z (List.mem_cons_self ..)) (fun u hu => ha u (List.mem_cons_of_mem _ hu)) (by simpa using hl) (fun k => by have := hd (k + 1); simpa using this)
    · have hstop : stepS s x = none := by
        rcases h0 with h | h | ⟨c, h⟩
        · simp at h; exact absurd h hxy
        · simp at h; subst h; rfl
        · simp at h; subst h
          simp [stepS, hs]
      rw [runS_stopped _ _ _ hstop]
      exact runS_grows (y :: L) s
structure TurnFallen (L C : Lfs) (A : Nat) (s : List UInt8) : Prop where
  pos : 0 < A
  old : ∀ x, some x ∈ L → x.age < A
  small : s.length < 16777216
  len : C.length = L.length
  any : ∀ (i : Nat) (c : Bool × List UInt8), (laidAll [[s]])[i]? = some c → C[i]? = some (some ⟨A, c.1, c.2⟩) ∨ C[i]? = some none ∨ C[i]? = L[i]?
  rest : ∀ i : Nat, (laidAll [[s]]).length ≤ i → C[i]? = L[i]?
theorem laid_later (l : List UInt8) (i : Nat) (c : Bool × List UInt8) (h : (laid l)[i + 1]? = some c) : c.1 = false := by
  unfold laid at h
  rw [List.getElem?_mapIdx] at h
  cases hc : (chunks l)[i + 1]? with
  | none => rw [hc] at h; cases h
  | some x => rw [hc] at h; simp at h; rw [← h]
theorem laidAll_one (s : List UInt8) : laidAll [[s]] = laid (recsL [s]) := by simp [laidAll]
theorem TurnFallen.told {L C : Lfs} {A : Nat} {s : List UInt8} (h : TurnFallen L C A s) :
    (outH C = [s] ∧ ageH C = A) ∨ outH C = [] ∨ (ageH C = ageH L ∧ ∃ m, outH L = outH C ++ m) := by
  obtain ⟨j, hj⟩ : ∃ j, aheadN A (laidAll [[s]]) C = j := ⟨_, rfl⟩
  have hjle := aheadN_le A (laidAll [[s]]) C
  have hsplit := aheadN_split A (laidAll [[s]]) C
  have hnext := aheadN_next A (laidAll [[s]]) C
  rw [hj] at hjle hsplit hnext
  have hhead : ∀ x, (C.drop j).head? = some x → x = none ∨ L[j]? = some x := fun x hx => by
    have hx' : C[j]? = some x := by rw [List.head?_drop] at hx; exact hx
    by_cases hjl : j < (laidAll [[s]]).length
    · obtain ⟨c, hc⟩ : ∃ c, (laidAll [[s]])[j]? = some c := ⟨_, List.getElem?_eq_getElem hjl⟩
      rcases h.any j c hc with g | g | g
      · exact absurd g (hnext c hc)
      · rw [hx'] at g; exact .inl (by simpa using g)
      · rw [hx'] at g; exact .inr g.symm
    · rw [h.rest j (by omega)] at hx'; exact .inr hx'
  cases hj0 : (laidAll [[s]]).take j with
  | cons c cs =>
    have hc1 : c.1 = true := laidAll_first [[s]] c (by
      have : ((laidAll [[s]]).take j).head? = some c := by rw [hj0]; rfl
      cases j with
      | zero => simp at hj0
      | succ j => rw [List.head?_take] at this; simpa using this)
    obtain ⟨c1, c2⟩ := c
    dsimp only at hc1
    subst hc1
    have e0 : (some ⟨A, true, c2⟩ : Option LeafP) :: cs.map (fun c => some ⟨A, c.1, c.2⟩) ++ C.drop j = C := by
      rw [hj0] at hsplit; exact hsplit.symm
    have hsc := scan_new [] A c2 cs (C.drop j) h.pos (fun x hx => by simp at hx) (fun y hy => by
      rcases hhead _ hy with g | g
      · cases g
      · exact h.old y (List.mem_of_getElem? g))
    have e1 : (runS scS0 ([] : Lfs)) = scS0 := rfl
    rw [e1, List.take_nil, List.nil_append, e0] at hsc
    obtain ⟨t, _, t2, t3⟩ := laid_prefix [[s]] (fun x hx => by simp at hx; subst hx; exact h.small) [] [[s]] rfl j (by simp [laidAll])
    rw [hj0] at t3
    have hout : outH C = [s].take t := by
      unfold outH; rw [hsc]
      have : ([[s]] : List Rcs).flatten = [s] := rfl
      rw [this] at t3
      rw [← t3]; rfl
    cases t with
    | zero => exact .inr (.inl hout)
    | succ t =>
      refine .inl ⟨by rw [hout]; simp, ?_⟩
      rw [← e0]; rfl
  | nil =>
    have hj' : j = 0 := by
      have h0 : ((laidAll [[s]]).take j).length = 0 := by rw [hj0]; rfl
      rw [List.length_take] at h0
      omega
    subst hj'
    cases hC : C with
    | nil => exact .inr (.inl (by rfl))
    | cons x t =>
      rcases hhead x (by rw [hC]; rfl) with g | g
      · subst g; exact .inr (.inl (by unfold outH; rw [runS_stopped _ _ _ rfl]))
      · refine .inr (.inr ⟨?_, ?_⟩)
        · cases L with
          | nil => simp at g
          | cons y u => simp at g; subst g; cases y <;> rfl
        · rw [← hC]
          exact run_diff A C L scS0 h.pos h.old h.len (fun k => by
            cases k with
            | zero => exact .inl (by rw [hC, g]; rfl)
            | succ k =>
              by_cases hk : k + 1 < (laidAll [[s]]).length
              · obtain ⟨c, hc⟩ : ∃ c, (laidAll [[s]])[k + 1]? = some c := ⟨_, List.getElem?_eq_getElem hk⟩
                rcases h.any (k + 1) c hc with q | q | q
                · refine .inr (.inr ⟨c.2, ?_⟩)
                  rw [laidAll_one] at hc
                  rw [q, laid_later _ _ _ hc]
                · exact .inr (.inl q)
                · exact .inl q
              · exact .inl (h.rest (k + 1) (by omega)))
/-- behind a turn that was not synced: the half that stood, or the record alone -/
theorem open_turn0 {L0 L1 C1 : Lfs} {A : Nat} {s : List UInt8} (ho : (openH L0 L1).1 = 0) (hA : ageH L0 < A) (h : TurnFallen L1 C1 A s) :
    ((openH L0 C1).1 = 1 ∧ (openH L0 C1).2.1 = [s]) ∨ ((openH L0 C1).1 = 0 ∧ (openH L0 C1).2.1 = outH L0) := by
  have hno : ¬ (outH L1 ≠ [] ∧ (outH L0 = [] ∨ ageH L0 < ageH L1)) := by
    intro hc; unfold openH at ho; rw [if_pos hc] at ho; cases ho
  rcases h.told with ⟨h1, h2⟩ | h1 | ⟨h1, m, h2⟩
  · left
    have hy : outH C1 ≠ [] ∧ (outH L0 = [] ∨ ageH L0 < ageH C1) := ⟨by rw [h1]; simp, .inr (by rw [h2]; exact hA)⟩
    unfold openH; rw [if_pos hy]; exact ⟨rfl, h1⟩
  · right
    unfold openH; rw [if_neg (fun hc => hc.1 h1)]; exact ⟨rfl, rfl⟩
  · right
    have hn : ¬ (outH C1 ≠ [] ∧ (outH L0 = [] ∨ ageH L0 < ageH C1)) := by
      rintro ⟨g1, g2⟩
      refine hno ⟨fun e => ?_, ?_⟩
      · rw [h2] at e; exact g1 (List.append_eq_nil_iff.1 e).1
      · rw [h1] at g2; exact g2
    unfold openH; rw [if_neg hn]; exact ⟨rfl, rfl⟩
theorem open_turn1 {L0 L1 C0 : Lfs} {A : Nat} {s : List UInt8} (ho : (openH L0 L1).1 = 1) (hA : ageH L1 < A) (h : TurnFallen L0 C0 A s) :
    ((openH C0 L1).1 = 0 ∧ (openH C0 L1).2.1 = [s]) ∨ ((openH C0 L1).1 = 1 ∧ (openH C0 L1).2.1 = outH L1) := by
  have hyes : outH L1 ≠ [] ∧ (outH L0 = [] ∨ ageH L0 < ageH L1) := by
    unfold openH at ho
    split at ho
    · rename_i hc; exact hc
    · cases ho
  rcases h.told with ⟨h1, h2⟩ | h1 | ⟨h1, m, h2⟩
  · left
    have hn : ¬ (outH L1 ≠ [] ∧ (outH C0 = [] ∨ ageH C0 < ageH L1)) := by
      rintro ⟨_, g | g⟩
      · rw [h1] at g; cases g
      · rw [h2] at g; omega
    unfold openH; rw [if_neg hn]; exact ⟨rfl, h1⟩
  · right
    unfold openH; rw [if_pos ⟨hyes.1, .inl h1⟩]; exact ⟨rfl, rfl⟩
  · right
    have hy : outH L1 ≠ [] ∧ (outH C0 = [] ∨ ageH C0 < ageH L1) := by
      refine ⟨hyes.1, ?_⟩
      rcases hyes.2 with g | g
      · rw [g] at h2; exact .inl (List.append_eq_nil_iff.1 h2.symm).1
      · exact .inr (by rw [h1]; exact g)
    unfold openH; rw [if_pos hy]; exact ⟨rfl, rfl⟩
end Go.Proofs.Ythjlbfijfpfohaa

namespace Go.Proofs.Ythjlbfijfpfohaa

theorem ageH_lt {L : Lfs} {A : Nat} (hA : 0 < A) (h : ∀ x, some x ∈ L → x.age < A) : ageH L < A := by
  cases L with
  | nil => exact hA
  | cons x t =>
    cases x with
    | none => exact hA
    | some y =>
      simp only [ageH]
      split
      · exact h y (List.mem_cons_self ..)
      · exact hA
theorem laid_some (a : List Rcs) (h : a.flatten ≠ []) : ∃ c, (laidAll a)[0]? = some c ∧ c.1 = true := by
  cases hl : laidAll a with
  | nil => exact absurd (laid_empty a hl) h
  | cons c t => exact ⟨c, rfl, laidAll_first a c (by rw [hl]; rfl)⟩
/-- how the half B stands, the other one being O: Open told it; or a turn was synced -/
def Stands0 (B O : Lfs) (A : Nat) (a : List Rcs) : Prop := (openH B O).1 = 0 ∨ (pgsH B = 0 ∧ a.flatten ≠ [] ∧ ∀ x, some x ∈ O → x.age < A)
def Stands1 (B O : Lfs) (A : Nat) (a : List Rcs) : Prop := (openH O B).1 = 1 ∨ (pgsH B = 0 ∧ a.flatten ≠ [] ∧ ∀ x, some x ∈ O → x.age < A)
theorem out_none {B : Lfs} (h : pgsH B = 0) : outH B = [] := by
  unfold outH; rw [runS_out0 scS0 B h]
theorem Fallen.turned {B C : Lfs} {A : Nat} {ws a : List Rcs} (h : Fallen B C A ws a) (hB : pgsH B = 0) (ha : a.flatten ≠ []) : outH C ≠ [] ∧ ageH C = A := by
  obtain ⟨b, hb⟩ := h.pre
  constructor
  · obtain ⟨t, h1, h2, h3⟩ := h.out
    rw [h3, out_none hB, List.nil_append]
    have ht : 1 ≤ t := by
      cases hf : a.flatten with
      | nil => exact absurd hf ha
      | cons x y => rw [hf] at h1; simp at h1; omega
    cases hw : ws.flatten with
    | nil => rw [hb, List.flatten_append] at hw; exact absurd (List.append_eq_nil_iff.1 hw).1 ha
    | cons x y =>
      cases t with
      | zero => omega
      | succ t => simp
  · obtain ⟨c, hc, hc1⟩ := laid_some a ha
    have hl : 0 < (laidAll a).length := (List.getElem?_eq_some_iff.1 hc).1
    have hw : (laidAll ws)[0]? = some c := by rw [hb, laidAll_append, List.getElem?_append_left hl]; exact hc
    have h0 := h.sync 0 c hl hw
    rw [hB] at h0
    cases C with
    | nil => simp at h0
    | cons x t => simp at h0; subst h0; simp [ageH, hc1]
/-- behind a crash the half that stood is told, with all that was synced, and the first ones of the rest -/
theorem crash_stands0 {B O C : Lfs} {A : Nat} {ws a : List Rcs} (hs : Stands0 B O A a) (h : Fallen B C A ws a) :
    ∃ t, a.flatten.length ≤ t ∧ t ≤ ws.flatten.length ∧ (openH C O).1 = 0 ∧ (openH C O).2.1 = outH B ++ ws.flatten.take t := by
  rcases hs with hs | ⟨h1, h2, h3⟩
  · exact open_again0 hs h
  · obtain ⟨g1, g2⟩ := h.turned h1 h2
    obtain ⟨t, t1, t2, t3⟩ := h.out
    have hn : ¬ (outH O ≠ [] ∧ (outH C = [] ∨ ageH C < ageH O)) := by
      rintro ⟨_, g | g⟩
      · exact g1 g
      · have := ageH_lt h.pos h3; omega
    refine ⟨t, t1, t2, ?_, ?_⟩
    · unfold openH; rw [if_neg hn]
    · unfold openH; rw [if_neg hn]; exact t3
theorem crash_stands1 {B O C : Lfs} {A : Nat} {ws a : List Rcs} (hs : Stands1 B O A a) (h : Fallen B C A ws a) :
    ∃ t, a.flatten.length ≤ t ∧ t ≤ ws.flatten.length ∧ (openH O C).1 = 1 ∧ (openH O C).2.1 = outH B ++ ws.flatten.take t := by
  rcases hs with hs | ⟨h1, h2, h3⟩
  · exact open_again1 hs h
  · obtain ⟨g1, g2⟩ := h.turned h1 h2
    obtain ⟨t, t1, t2, t3⟩ := h.out
    have hy : outH C ≠ [] ∧ (outH O = [] ∨ ageH O < ageH C) := ⟨g1, .inr (by rw [g2]; exact ageH_lt h.pos h3)⟩
    refine ⟨t, t1, t2, ?_, ?_⟩
    · unfold openH; rw [if_pos hy]
    · unfold openH; rw [if_pos hy]; exact t3
end Go.Proofs.Ythjlbfijfpfohaa

namespace Go.Proofs.Ythjlbfijfpfohaa

/-- the leaf that a raw page is, as page i of a half -/
def pgLeaf (r : ByteArray) (i : Nat) : Option LeafP := if okPage r = true then leafR (r.extract 0 252).data.toList i else none
/-- the numbers that stand where a leaf has its ages -/
def tgA (r : ByteArray) : Nat := tagA r.data.toList
def tgB (r : ByteArray) : Nat := tagB r.data.toList
theorem tags_body (r : ByteArray) : tagA (r.extract 0 252).data.toList = tgA r ∧ tagB (r.extract 0 252).data.toList = tgB r := by
  unfold tgA tgB tagA tagB
  rw [extract_list]
  simp only [List.drop_zero, Nat.sub_zero]
  constructor
  · rw [List.take_take]; rfl
  · rw [List.drop_take, List.take_take]; rfl
theorem pgLeaf_tags {r : ByteArray} {i : Nat} {x : LeafP} (h : pgLeaf r i = some x) : tgA r = x.age ∧ tgB r = x.age ∧ 1 ≤ x.age ∧ x.s.length ≤ 234 := by
  unfold pgLeaf at h
  split at h
  · obtain ⟨h1, h2, h3, h4⟩ := leafR_tags h
    exact ⟨(tags_body r).1 ▸ h1, (tags_body r).2 ▸ h2, h3, h4⟩
  · cases h
theorem pgLeaf_torn {r : ByteArray} (h : tgA r ≠ tgB r) (i : Nat) : pgLeaf r i = none := by
  cases hp : pgLeaf r i with
  | none => rfl
  | some x => obtain ⟨a, b, _⟩ := pgLeaf_tags hp; exact absurd (a.trans b.symm) h
theorem tgA_half {r a : ByteArray} (h : r.data.toList.take 128 = a.data.toList.take 128) : tgA r = tgA a := by
  unfold tgA tagA
  have : (r.data.toList.take 128).take 6 = (a.data.toList.take 128).take 6 := by rw [h]
  rw [List.take_take, List.take_take] at this
  simpa using congrArg Lib.leNat this
theorem tgB_half {r b : ByteArray} (h : r.data.toList.drop 128 = b.data.toList.drop 128) : tgB r = tgB b := by
  unfold tgB tagB
  have : ((r.data.toList.drop 128).drop 116).take 6 = ((b.data.toList.drop 128).drop 116).take 6 := by rw [h]
  rw [List.drop_drop, List.drop_drop] at this
  exact congrArg Lib.leNat this
/-- a page that was written once, by a leaf of a new age, behind a crash: as it was, or the new one, or no leaf -/
theorem crash_raw {s p r : ByteArray} {A : Nat} (hr : ∃ a ∈ [s, p], ∃ b ∈ [s, p], r.data.toList.take 128 = a.data.toList.take 128 ∧ r.data.toList.drop 128 = b.data.toList.drop 128)
    (h1 : tgA s < A) (h2 : tgB s < A) (h3 : tgA p = A) (h4 : tgB p = A) : (r = s ∨ r = p ∨ ∀ i, pgLeaf r i = none) ∧ tgA r ≤ A ∧ tgB r ≤ A := by
  have whole : ∀ {u : ByteArray}, r.data.toList.take 128 = u.data.toList.take 128 → r.data.toList.drop 128 = u.data.toList.drop 128 → r = u := fun e1 e2 => ba_ext (by rw [← List.take_append_drop 128 r.data.toList, e1, e2, List.take_append_drop])
  obtain ⟨a, ha, b, hb, e1, e2⟩ := hr
  have ta := tgA_half e1
  have tb := tgB_half e2
  simp at ha hb
  rcases ha with rfl | rfl <;> rcases hb with rfl | rfl
  · exact ⟨.inl (whole e1 e2), by omega, by omega⟩
  · exact ⟨.inr (.inr (pgLeaf_torn (by omega))), by omega, by omega⟩
  · exact ⟨.inr (.inr (pgLeaf_torn (by omega))), by omega, by omega⟩
  · exact ⟨.inr (.inl (whole e1 e2)), by omega, by omega⟩
/-- a leaf's page -/
def leafPg (age num : Nat) (beg : Bool) (s : List UInt8) : ByteArray := pageOf ⟨(leafL age num beg s).toArray⟩
section
variable (age num : Nat) (beg : Bool) (s : List UInt8) (hs : s.length ≤ 234)
include hs
theorem leafPg_body : ((leafPg age num beg s).extract 0 252).data.toList = leafL age num beg s := by
  have hz : (⟨(leafL age num beg s).toArray⟩ : ByteArray).size = 252 := by rw [Lib.size_eq]; exact leafL_length age num beg s hs
  unfold leafPg
  rw [pageOf_extract _ (by omega), padOf_full _ _ hz]
theorem leafPg_size : (leafPg age num beg s).size = 256 := pageOf_size _ (by rw [Lib.size_eq]; show (leafL age num beg s).length ≤ 252; rw [leafL_length age num beg s hs]; omega)
theorem pgLeaf_leafPg (h1 : 1 ≤ age) (h : age < 281474976710656) (hn : num < 65536) : pgLeaf (leafPg age num beg s) num = some ⟨age, beg, s⟩ := by
  have hok : okPage (leafPg age num beg s) = true := okPage_pageOf _ (by rw [Lib.size_eq]; show (leafL age num beg s).length ≤ 252; rw [leafL_length age num beg s hs]; omega)
  unfold pgLeaf
  rw [if_pos hok, leafPg_body age num beg s hs]
  exact leafR_leafL age num beg s hs h1 h hn
theorem leafPg_tags (h : age < 281474976710656) : tgA (leafPg age num beg s) = age ∧ tgB (leafPg age num beg s) = age := by
  have h1 := tags_body (leafPg age num beg s)
  rw [leafPg_body age num beg s hs] at h1
  exact ⟨h1.1.symm.trans (leafL_tagA age num beg s h), h1.2.symm.trans (leafL_tagB age num beg s hs h)⟩
end
end Go.Proofs.Ythjlbfijfpfohaa

namespace Go.Proofs.Ythjlbfijfpfohaa

/-- a half of a disk, as leaves -/
def halfL (S : List ByteArray) (h : Nat) : Lfs := (List.range (S.length / 2)).map fun i => pgLeaf (S.getD (h * (S.length / 2) + i) ⟨#[]⟩) i
theorem halfL_length (S : List ByteArray) (h : Nat) : (halfL S h).length = S.length / 2 := by simp [halfL]
theorem halfL_get (S : List ByteArray) (h i : Nat) (hi : i < S.length / 2) : (halfL S h)[i]? = some (pgLeaf (S.getD (h * (S.length / 2) + i) ⟨#[]⟩) i) := by
  unfold halfL; rw [List.getElem?_map, List.getElem?_range hi]; rfl
theorem halfL_past (S : List ByteArray) (h i : Nat) (hi : S.length / 2 ≤ i) : (halfL S h)[i]? = none := List.getElem?_eq_none (by rw [halfL_length]; exact hi)
theorem half_in (n h i : Nat) (hh : h < 2) (hi : i < n / 2) : h * (n / 2) + i < n := by
  have : h = 0 ∨ h = 1 := by omega
  rcases this with rfl | rfl <;> omega
/-- leaves' ages are the pages' -/
theorem halfL_old {S : List ByteArray} {h A : Nat} (hh : h < 2) (ht : ∀ s ∈ S, tgA s < A) : ∀ x, some x ∈ halfL S h → x.age < A := by
  intro x hx
  obtain ⟨i, hi, e⟩ := List.mem_map.1 hx
  have hi' := List.mem_range.1 hi
  have hk := half_in S.length h i hh hi'
  have h1 := (pgLeaf_tags e).1
  have hm : S.getD (h * (S.length / 2) + i) ⟨#[]⟩ ∈ S := by
    rw [List.getD_eq_getElem?_getD, List.getElem?_eq_getElem hk]; exact List.getElem_mem hk
  have := ht _ hm
  omega
theorem halfL_aged (S : List ByteArray) (h : Nat) : Aged (halfL S h) := by
  intro x hx
  obtain ⟨i, _, e⟩ := List.mem_map.1 hx
  exact (pgLeaf_tags e).2.2.1
/-- the disk S, of S0 on: in the half h, behind the first p pages, what was written in the age A, and synced -/
structure EraS (S0 S : List ByteArray) (p h A : Nat) (ws a : List Rcs) : Prop where
  hh : h < 2
  len : S.length = S0.length
  pre : ∃ b, ws = a ++ b
  pos : 0 < A
  top : A < 281474976710656
  tags : ∀ s ∈ S0, tgA s < A ∧ tgB s < A
  small : ∀ s ∈ ws.flatten, s.length < 16777216
  fit : p + (laidAll ws).length ≤ S0.length / 2
  pages : S0.length / 2 ≤ 65536
  sync : ∀ (j : Nat) (c : Bool × List UInt8), j < (laidAll a).length → (laidAll ws)[j]? = some c → S[h * (S0.length / 2) + (p + j)]? = some (leafPg A (p + j) c.1 c.2)
  rest : ∀ k, (∀ j, j < (laidAll a).length → k ≠ h * (S0.length / 2) + (p + j)) → S[k]? = S0[k]?
/-- what a crash leaves of it -/
def Crashed (S0 S S' : List ByteArray) (p h A : Nat) (ws a : List Rcs) : Prop := S'.length = S.length ∧ ∀ (k : Nat) (s : ByteArray), S[k]? = some s → ∃ r, S'[k]? = some r ∧ (r = s ∨ ∃ (j : Nat) (c : Bool × List UInt8),
  (laidAll a).length ≤ j ∧ (laidAll ws)[j]? = some c ∧ k = h * (S0.length / 2) + (p + j) ∧
  ∃ x ∈ [s, leafPg A (p + j) c.1 c.2], ∃ y ∈ [s, leafPg A (p + j) c.1 c.2], r.data.toList.take 128 = x.data.toList.take 128 ∧ r.data.toList.drop 128 = y.data.toList.drop 128)
theorem laidAll_small (ws : List Rcs) : ∀ c ∈ laidAll ws, c.2.length ≤ 234 := by
  intro c hc
  obtain ⟨w, _, hw⟩ := List.mem_flatMap.1 hc
  unfold laid at hw
  obtain ⟨i, hi, e⟩ := List.mem_mapIdx.1 hw
  rw [← e]
  exact chunks_small _ _ (List.getElem_mem hi)
section
variable {S0 S S' : List ByteArray} {p h A : Nat} {ws a : List Rcs}
theorem EraS.at (H : EraS S0 S p h A ws a) {k : Nat} (hk : k < S0.length) : ∃ s, S[k]? = some s := ⟨_, List.getElem?_eq_getElem (by rw [H.len]; exact hk)⟩
/-- an old page's numbers, where nothing was written -/
theorem EraS.oldTags (H : EraS S0 S p h A ws a) {k : Nat} {s : ByteArray} (hs : S[k]? = some s) (hk : ∀ j, j < (laidAll a).length → k ≠ h * (S0.length / 2) + (p + j)) : tgA s < A ∧ tgB s < A := by
  rw [H.rest k hk] at hs
  exact H.tags s (List.mem_of_getElem? hs)
theorem crash_page (H : EraS S0 S p h A ws a) (C : Crashed S0 S S' p h A ws a) (i : Nat) (hi : i < S0.length / 2) (r : ByteArray) (hr : S'[h * (S0.length / 2) + i]? = some r) :
    (∃ j c, i = p + j ∧ (laidAll ws)[j]? = some c ∧ pgLeaf r i = some ⟨A, c.1, c.2⟩) ∨ pgLeaf r i = none ∨ ((∀ j, j < (laidAll a).length → i ≠ p + j) ∧ S0[h * (S0.length / 2) + i]? = some r) := by
  have hk := half_in S0.length h i H.hh hi
  obtain ⟨s, hs⟩ := H.at hk
  obtain ⟨r', hr', hc⟩ := C.2 _ s hs
  rw [hr] at hr'
  cases hr'
  have hnew : ∀ j c, (laidAll ws)[j]? = some c → i = p + j → pgLeaf (leafPg A i c.1 c.2) i = some ⟨A, c.1, c.2⟩ := fun j c hj e =>
    pgLeaf_leafPg A i c.1 c.2 (laidAll_small ws c (List.mem_of_getElem? hj)) H.pos H.top (by have := H.pages; omega)
  by_cases hsy : ∃ j, j < (laidAll a).length ∧ i = p + j
  · obtain ⟨j, hj, rfl⟩ := hsy
    have hjw : j < (laidAll ws).length := by obtain ⟨b, hb⟩ := H.pre; rw [hb, laidAll_append, List.length_append]; omega
    obtain ⟨c, hcw⟩ : ∃ c, (laidAll ws)[j]? = some c := ⟨_, List.getElem?_eq_getElem hjw⟩
    have hs2 := H.sync j c hj hcw
    rw [hs] at hs2
    cases hs2
    left
    refine ⟨j, c, rfl, hcw, ?_⟩
    rcases hc with rfl | ⟨j', c', h1, _, h3, _⟩
    · exact hnew j c hcw rfl
    · omega
  · have hno : ∀ j, j < (laidAll a).length → i ≠ p + j := fun j hj e => hsy ⟨j, hj, e⟩
    have hno' : ∀ j, j < (laidAll a).length → h * (S0.length / 2) + i ≠ h * (S0.length / 2) + (p + j) := fun j hj e => hno j hj (by omega)
    have hs0 := H.rest _ hno'
    rcases hc with rfl | ⟨j, c, _, h2, h3, hv⟩
    · exact .inr (.inr ⟨hno, by rw [← hs0]; exact hs⟩)
    · have hij : i = p + j := by omega
      obtain ⟨t1, t2⟩ := H.oldTags hs hno'
      obtain ⟨u1, u2⟩ := leafPg_tags A (p + j) c.1 c.2 (laidAll_small ws c (List.mem_of_getElem? h2)) H.top
      rcases (crash_raw hv t1 t2 u1 u2).1 with rfl | rfl | g
      · exact .inr (.inr ⟨hno, by rw [← hs0]; exact hs⟩)
      · left
        refine ⟨j, c, hij, h2, ?_⟩
        rw [← hij]; exact hnew j c h2 hij
      · exact .inr (.inl (g i))
/-- a page on which nothing was written -/
theorem crash_far (H : EraS S0 S p h A ws a) (C : Crashed S0 S S' p h A ws a) (k : Nat) (hk : ∀ j, j < (laidAll ws).length → k ≠ h * (S0.length / 2) + (p + j)) : S'[k]? = S0[k]? := by
  have hle : (laidAll a).length ≤ (laidAll ws).length := by obtain ⟨b, hb⟩ := H.pre; rw [hb, laidAll_append, List.length_append]; omega
  have hs0 := H.rest k (fun j hj => hk j (by omega))
  cases hs : S[k]? with
  | none =>
    rw [← hs0, hs]
    have := List.getElem?_eq_none_iff.1 hs
    exact List.getElem?_eq_none (by rw [C.1]; exact this)
  | some s =>
    obtain ⟨r, hr, hc⟩ := C.2 k s hs
    rcases hc with rfl | ⟨j, c, _, h2, h3, _⟩
    · rw [hr, ← hs0, hs]
    · exact absurd h3 (hk j (List.getElem?_eq_some_iff.1 h2).1)
/-- the half that stands -/
theorem era_fallen (H : EraS S0 S p h A ws a) (C : Crashed S0 S S' p h A ws a) (B : Lfs) (hp : pgsH B = p) (blen : B.length = S0.length / 2) (bold : ∀ x, some x ∈ B → x.age < A) (base : ∀ i, i < p ∨ p + (laidAll a).length ≤ i → B[i]? = (halfL S0 h)[i]?) : Fallen B (halfL S' h) A ws a := by
  subst hp
  have hl : S'.length = S0.length := C.1.trans H.len
  have hgD : ∀ i, i < S0.length / 2 → ∃ r, S'[h * (S0.length / 2) + i]? = some r ∧ (halfL S' h)[i]? = some (pgLeaf r i) := fun i hi => by
    have hk := half_in S0.length h i H.hh hi
    obtain ⟨r, hr⟩ : ∃ r, S'[h * (S0.length / 2) + i]? = some r := ⟨_, List.getElem?_eq_getElem (by rw [hl]; exact hk)⟩
    refine ⟨r, hr, ?_⟩
    rw [halfL_get S' h i (by rw [hl]; exact hi), hl, List.getD_eq_getElem?_getD, hr]; rfl
  have hS0 : ∀ i r, i < S0.length / 2 → S0[h * (S0.length / 2) + i]? = some r → (halfL S0 h)[i]? = some (pgLeaf r i) := fun i r hi hr => by
    rw [halfL_get S0 h i hi, List.getD_eq_getElem?_getD, hr]; rfl
  have alts : ∀ i, i < S0.length / 2 → (∃ j c, i = pgsH B + j ∧ (laidAll ws)[j]? = some c ∧ (halfL S' h)[i]? = some (some ⟨A, c.1, c.2⟩)) ∨ (halfL S' h)[i]? = some none ∨ ((∀ j, j < (laidAll a).length → i ≠ pgsH B + j) ∧ (halfL S' h)[i]? = (halfL S0 h)[i]?) := fun i hi => by
    obtain ⟨r, hr, he⟩ := hgD i hi
    rcases crash_page H C i hi r hr with ⟨j, c, h1, h2, h3⟩ | h1 | ⟨h1, h2⟩
    · exact .inl ⟨j, c, h1, h2, by rw [he, h3]⟩
    · exact .inr (.inl (by rw [he, h1]))
    · exact .inr (.inr ⟨h1, by rw [he, hS0 i r hi h2]⟩)
  have hle : (laidAll a).length ≤ (laidAll ws).length := by obtain ⟨b, hb⟩ := H.pre; rw [hb, laidAll_append, List.length_append]; omega
  have far : ∀ i, (∀ j, j < (laidAll ws).length → i ≠ pgsH B + j) → (halfL S' h)[i]? = (halfL S0 h)[i]? := fun i hi => by
    by_cases hil : i < S0.length / 2
    · obtain ⟨r, hr, he⟩ := hgD i hil
      have hf := crash_far H C (h * (S0.length / 2) + i) (fun j hj e => hi j hj (by omega))
      rw [hr] at hf
      rw [he, hS0 i r hil hf.symm]
    · rw [halfL_past S' h i (by rw [hl]; omega), halfL_past S0 h i (by omega)]
  have hfit := H.fit
  refine ⟨H.pre, H.pos, bold, H.small, by rw [halfL_length, hl, blen], ?_, ?_, ?_, ?_⟩
  · intro i hi
    rw [far i (fun j _ e => by omega), base i (.inl hi)]
  · intro i c hi hc
    have hil : pgsH B + i < S0.length / 2 := by have := (List.getElem?_eq_some_iff.1 hc).1; omega
    obtain ⟨r, hr, he⟩ := hgD _ hil
    rcases crash_page H C _ hil r hr with ⟨j, c', h1, h2, h3⟩ | h1 | ⟨h1, _⟩
    · obtain rfl : j = i := by omega
      rw [hc] at h2; cases h2
      rw [he, h3]
    · exfalso
      obtain ⟨s, hs⟩ := H.at (half_in S0.length h _ H.hh hil)
      have hs2 := H.sync i c hi hc
      obtain ⟨r', hr', hcc⟩ := C.2 _ s hs
      rw [hr] at hr'; cases hr'
      rw [hs] at hs2; cases hs2
      rcases hcc with rfl | ⟨j', c', g1, _, g3, _⟩
      · rw [pgLeaf_leafPg A _ c.1 c.2 (laidAll_small ws c (List.mem_of_getElem? hc)) H.pos H.top (by have := H.pages; omega)] at h1
        cases h1
      · omega
    · exact absurd rfl (h1 i hi)
  · intro i c hc
    have hil : pgsH B + i < S0.length / 2 := by have := (List.getElem?_eq_some_iff.1 hc).1; omega
    rcases alts _ hil with ⟨j, c', h1, h2, h3⟩ | h1 | ⟨h1, h2⟩
    · obtain rfl : j = i := by omega
      rw [hc] at h2; cases h2
      exact .inl h3
    · exact .inr (.inl h1)
    · refine .inr (.inr ?_)
      rw [h2, base _ (.inr ?_)]
      by_cases hia : i < (laidAll a).length
      · exact absurd rfl (h1 i hia)
      · omega
  · intro i hi
    rw [far _ (fun j hj e => by omega), base _ (.inr (by omega))]
/-- the other half is as it was -/
theorem era_other (H : EraS S0 S p h A ws a) (C : Crashed S0 S S' p h A ws a) (g : Nat) (hg : g < 2) (hne : g ≠ h) : halfL S' g = halfL S0 g := by
  have hl : S'.length = S0.length := C.1.trans H.len
  apply List.ext_getElem?
  intro i
  by_cases hil : i < S0.length / 2
  · rw [halfL_get S' g i (by rw [hl]; exact hil), halfL_get S0 g i hil, hl, List.getD_eq_getElem?_getD, List.getD_eq_getElem?_getD]
    rw [crash_far H C (g * (S0.length / 2) + i) (fun j hj e => by
      have hfit := H.fit
      have hh := H.hh
      have hc : (g = 0 ∧ h = 1) ∨ (g = 1 ∧ h = 0) := by omega
      rcases hc with ⟨rfl, rfl⟩ | ⟨rfl, rfl⟩ <;> omega)]
  · rw [halfL_past S' g i (by rw [hl]; omega), halfL_past S0 g i (by omega)]
/-- no age comes twice -/
theorem era_tags (H : EraS S0 S p h A ws a) (C : Crashed S0 S S' p h A ws a) : ∀ r ∈ S', tgA r ≤ A ∧ tgB r ≤ A := by
  intro r hr
  obtain ⟨k, hk, rfl⟩ := List.mem_iff_getElem.1 hr
  have hkS : k < S.length := by rw [← C.1]; exact hk
  obtain ⟨s, hs⟩ : ∃ s, S[k]? = some s := ⟨_, List.getElem?_eq_getElem hkS⟩
  obtain ⟨r', hr', hc⟩ := C.2 k s hs
  rw [List.getElem?_eq_getElem hk] at hr'
  cases hr'
  have hold : (∀ j, j < (laidAll a).length → k ≠ h * (S0.length / 2) + (p + j)) → tgA s < A ∧ tgB s < A := H.oldTags hs
  by_cases hsy : ∃ j, j < (laidAll a).length ∧ k = h * (S0.length / 2) + (p + j)
  · obtain ⟨j, hj, e⟩ := hsy
    have hjw : j < (laidAll ws).length := by obtain ⟨b, hb⟩ := H.pre; rw [hb, laidAll_append, List.length_append]; omega
    obtain ⟨c, hcw⟩ : ∃ c, (laidAll ws)[j]? = some c := ⟨_, List.getElem?_eq_getElem hjw⟩
    have hs2 := H.sync j c hj hcw
    rw [← e, hs] at hs2
    cases hs2
    obtain ⟨u1, u2⟩ := leafPg_tags A (p + j) c.1 c.2 (laidAll_small ws c (List.mem_of_getElem? hcw)) H.top
    rcases hc with q | ⟨j', c', g1, _, g3, _⟩
    · rw [q]; exact ⟨by omega, by omega⟩
    · omega
  · have hn : ∀ j, j < (laidAll a).length → k ≠ h * (S0.length / 2) + (p + j) := fun j hj e => hsy ⟨j, hj, e⟩
    obtain ⟨t1, t2⟩ := hold hn
    rcases hc with q | ⟨j, c, _, h2, _, hv⟩
    · rw [q]; exact ⟨by omega, by omega⟩
    · obtain ⟨u1, u2⟩ := leafPg_tags A (p + j) c.1 c.2 (laidAll_small ws c (List.mem_of_getElem? h2)) H.top
      exact (crash_raw hv t1 t2 u1 u2).2
/-- a turn that was not synced -/
theorem turn_fallen {s : List UInt8} (H : EraS S S 0 h A [[s]] []) (C : Crashed S S S' 0 h A [[s]] []) : TurnFallen (halfL S h) (halfL S' h) A s := by
  have hl : S'.length = S.length := C.1
  have hfit := H.fit
  have hgD : ∀ i, i < S.length / 2 → ∃ r, S'[h * (S.length / 2) + i]? = some r ∧ (halfL S' h)[i]? = some (pgLeaf r i) := fun i hi => by
    have hk := half_in S.length h i H.hh hi
    obtain ⟨r, hr⟩ : ∃ r, S'[h * (S.length / 2) + i]? = some r := ⟨_, List.getElem?_eq_getElem (by rw [hl]; exact hk)⟩
    refine ⟨r, hr, ?_⟩
    rw [halfL_get S' h i (by rw [hl]; exact hi), hl, List.getD_eq_getElem?_getD, hr]; rfl
  have hS0 : ∀ i r, i < S.length / 2 → S[h * (S.length / 2) + i]? = some r → (halfL S h)[i]? = some (pgLeaf r i) := fun i r hi hr => by
    rw [halfL_get S h i hi, List.getD_eq_getElem?_getD, hr]; rfl
  refine ⟨H.pos, halfL_old H.hh (fun r hr => (H.tags r hr).1), H.small s (by simp), by rw [halfL_length, halfL_length, hl], ?_, ?_⟩
  · intro i c hc
    have hil : i < S.length / 2 := by have := (List.getElem?_eq_some_iff.1 hc).1; omega
    obtain ⟨r, hr, he⟩ := hgD i hil
    rcases crash_page H C i hil r hr with ⟨j, c', h1, h2, h3⟩ | h1 | ⟨_, h2⟩
    · obtain rfl : j = i := by omega
      rw [hc] at h2; cases h2
      exact .inl (by rw [he, h3])
    · exact .inr (.inl (by rw [he, h1]))
    · exact .inr (.inr (by rw [he, hS0 i r hil h2]))
  · intro i hi
    by_cases hil : i < S.length / 2
    · obtain ⟨r, hr, he⟩ := hgD i hil
      have hf := crash_far H C (h * (S.length / 2) + i) (fun j hj e => by omega)
      rw [hr] at hf
      rw [he, hS0 i r hil hf.symm]
    · rw [halfL_past S' h i (by rw [hl]; omega), halfL_past S h i (by omega)]
end
end Go.Proofs.Ythjlbfijfpfohaa

namespace Go.Proofs.Ythjlbfijfpfohaa

/-- what Open tells of a disk: the half, its records, its pages -/
def openS (S : List ByteArray) : Nat × Rcs × Nat := openH (halfL S 0) (halfL S 1)
/-- how a half stands on the disk S0, B being its pages: Open told it; or a turn was synced -/
def Stands (h : Nat) (S0 : List ByteArray) (B : Lfs) (A : Nat) (a : List Rcs) : Prop := if h = 0 then Stands0 B (halfL S0 1) A a else Stands1 B (halfL S0 0) A a
/-- the half's pages: those of S0, but where something was synced in the age A -/
structure BaseS (S0 : List ByteArray) (B : Lfs) (p h A : Nat) (a : List Rcs) : Prop where
  pgs : pgsH B = p
  len : B.length = S0.length / 2
  old : ∀ x, some x ∈ B → x.age < A
  base : ∀ i, i < p ∨ p + (laidAll a).length ≤ i → B[i]? = (halfL S0 h)[i]?
  st : Stands h S0 B A a
theorem crash_told {S0 S S' : List ByteArray} {p h A : Nat} {ws a : List Rcs} {B : Lfs} (H : EraS S0 S p h A ws a) (C : Crashed S0 S S' p h A ws a) (K : BaseS S0 B p h A a) :
    ∃ t, a.flatten.length ≤ t ∧ t ≤ ws.flatten.length ∧ (openS S').1 = h ∧ (openS S').2.1 = outH B ++ ws.flatten.take t := by
  have hF := era_fallen H C B K.pgs K.len K.old K.base
  have hh := H.hh
  have hst := K.st
  unfold Stands at hst
  by_cases h0 : h = 0
  · subst h0
    rw [if_pos rfl] at hst
    have ho := era_other H C 1 (by omega) (by omega)
    unfold openS
    rw [ho]
    exact crash_stands0 hst hF
  · obtain rfl : h = 1 := by omega
    rw [if_neg (by omega)] at hst
    have ho := era_other H C 0 (by omega) (by omega)
    unfold openS
    rw [ho]
    exact crash_stands1 hst hF
theorem crashed_same {S0 S : List ByteArray} {p h A : Nat} {ws a : List Rcs} : Crashed S0 S S p h A ws a := ⟨rfl, fun _ s hs => ⟨s, hs, .inl rfl⟩⟩
/-- a disk on which all was synced -/
theorem synced_told {S0 S : List ByteArray} {p h A : Nat} {ws : List Rcs} {B : Lfs} (H : EraS S0 S p h A ws ws) (K : BaseS S0 B p h A ws) : (openS S).1 = h ∧ (openS S).2.1 = outH B ++ ws.flatten := by
  obtain ⟨t, t1, t2, h1, h2⟩ := crash_told H crashed_same K
  refine ⟨h1, ?_⟩
  rw [h2, List.take_of_length_le t1]
theorem turn_told {S0 S S' : List ByteArray} {p h A A' : Nat} {ws : List Rcs} {B : Lfs} {s : List UInt8} (H : EraS S0 S p h A ws ws) (K : BaseS S0 B p h A ws) (T : EraS S S 0 (1 - h) A' [[s]] []) (C : Crashed S S S' 0 (1 - h) A' [[s]] []) :
    ((openS S').1 = 1 - h ∧ (openS S').2.1 = [s]) ∨ ((openS S').1 = h ∧ (openS S').2.1 = outH B ++ ws.flatten) := by
  obtain ⟨g1, g2⟩ := synced_told H K
  have hT := turn_fallen T C
  have hh := H.hh
  by_cases h0 : h = 0
  · subst h0
    have ho := era_other T C 0 (by omega) (by omega)
    have hage : ageH (halfL S 0) < A' := ageH_lt T.pos (halfL_old (by omega) (fun r hr => (T.tags r hr).1))
    unfold openS at g1 g2 ⊢
    have e : outH (halfL S 0) = outH B ++ ws.flatten := by
      rw [← g2]; unfold openH at g1 ⊢
      split at g1
      · cases g1
      · rename_i hc; rw [if_neg hc]
    rw [ho]
    rcases open_turn0 g1 hage hT with q | q
    · exact .inl q
    · exact .inr ⟨q.1, by rw [q.2, e]⟩
  · obtain rfl : h = 1 := by omega
    have ho := era_other T C 1 (by omega) (by omega)
    have hage : ageH (halfL S 1) < A' := ageH_lt T.pos (halfL_old (by omega) (fun r hr => (T.tags r hr).1))
    unfold openS at g1 g2 ⊢
    have e : outH (halfL S 1) = outH B ++ ws.flatten := by
      rw [← g2]; unfold openH at g1 ⊢
      split at g1
      · rename_i hc; rw [if_pos hc]
      · cases g1
    rw [ho]
    rcases open_turn1 g1 hage hT with q | q
    · exact .inl q
    · exact .inr ⟨q.1, by rw [q.2, e]⟩
/-- the greatest number that stands where a leaf has an age -/
def maxTag (S : List ByteArray) : Nat := S.foldl (fun m r => max m (max (tgA r) (tgB r))) 0
theorem maxTag_go (S : List ByteArray) : ∀ m, m ≤ S.foldl (fun m r => max m (max (tgA r) (tgB r))) m ∧ ∀ r ∈ S, tgA r ≤ S.foldl (fun m r => max m (max (tgA r) (tgB r))) m ∧ tgB r ≤ S.foldl (fun m r => max m (max (tgA r) (tgB r))) m := by
  induction S with
  | nil => intro m; exact ⟨Nat.le_refl _, fun r hr => by simp at hr⟩
  | cons x S ih =>
    intro m
    obtain ⟨h1, h2⟩ := ih (max m (max (tgA x) (tgB x)))
    rw [List.foldl_cons]
    refine ⟨by omega, fun r hr => ?_⟩
    rcases List.mem_cons.1 hr with rfl | hr
    · exact ⟨by omega, by omega⟩
    · exact h2 r hr
theorem maxTag_ge (S : List ByteArray) : ∀ r ∈ S, tgA r ≤ maxTag S ∧ tgB r ≤ maxTag S := (maxTag_go S 0).2
theorem maxTag_le (S : List ByteArray) (A : Nat) (h : ∀ r ∈ S, tgA r ≤ A ∧ tgB r ≤ A) : maxTag S ≤ A := by
  unfold maxTag
  suffices hs : ∀ m, m ≤ A → S.foldl (fun m r => max m (max (tgA r) (tgB r))) m ≤ A from hs 0 (Nat.zero_le _)
  induction S with
  | nil => intro m hm; exact hm
  | cons x S ih =>
    intro m hm
    rw [List.foldl_cons]
    have := h x (List.mem_cons_self ..)
    exact ih (fun r hr => h r (List.mem_cons_of_mem _ hr)) _ (by omega)
/-- a log that was just opened -/
theorem opened (S : List ByteArray) (hH : S.length / 2 ≤ 65536) (hA : maxTag S + 1 < 281474976710656) : EraS S S (openS S).2.2 (openS S).1 (maxTag S + 1) [] [] ∧ BaseS S (halfL S (openS S).1) (openS S).2.2 (openS S).1 (maxTag S + 1) [] ∧ outH (halfL S (openS S).1) = (openS S).2.1 := by
  have ht : ∀ s ∈ S, tgA s < maxTag S + 1 ∧ tgB s < maxTag S + 1 := fun s hs => by have := maxTag_ge S s hs; omega
  have hcase : ((openS S).1 = 0 ∧ (openS S).2.2 = pgsH (halfL S 0) ∧ (openS S).2.1 = outH (halfL S 0)) ∨ ((openS S).1 = 1 ∧ (openS S).2.2 = pgsH (halfL S 1) ∧ (openS S).2.1 = outH (halfL S 1)) := by
    unfold openS openH
    split
    · exact .inr ⟨rfl, rfl, rfl⟩
    · exact .inl ⟨rfl, rfl, rfl⟩
  have hn : ∀ h, pgsH (halfL S h) ≤ S.length / 2 := fun h => by
    have := (runS_n (halfL S h) scS0).2
    rw [halfL_length] at this
    unfold pgsH; simp at this; omega
  rcases hcase with ⟨h1, h2, h3⟩ | ⟨h1, h2, h3⟩
  all_goals
    rw [h1, h2, h3]
    refine ⟨⟨by omega, rfl, ⟨[], rfl⟩, by omega, hA, ht, fun s hs => by simp at hs, by simp [laidAll]; exact hn _, hH, fun j c hj _ => by simp [laidAll] at hj, fun k _ => rfl⟩, ⟨rfl, halfL_length _ _, halfL_old (by omega) (fun s hs => (ht s hs).1), fun i _ => rfl, ?_⟩, rfl⟩
    unfold Stands
  · rw [if_pos rfl]; exact .inl h1
  · rw [if_neg (by decide)]; exact .inl h1
end Go.Proofs.Ythjlbfijfpfohaa

namespace Go.Proofs.Ythjlbfijfpfohaa

section
variable {S0 S S2 : List ByteArray} {p h A : Nat} {ws a : List Rcs} {B : Lfs}
/-- one more Write -/
theorem EraS.write (H : EraS S0 S p h A ws a) (w : Rcs) (hw : ∀ s ∈ w, s.length < 16777216) (hf : p + ((laidAll ws).length + needOf (recsL w).length) ≤ S0.length / 2) : EraS S0 S p h A (ws ++ [w]) a := by
  have e : (laidAll (ws ++ [w])).length = (laidAll ws).length + needOf (recsL w).length := by
    rw [laidAll_append, List.length_append]; simp [laidAll, laid_length]
  obtain ⟨b, hb⟩ := H.pre
  have hle : (laidAll a).length ≤ (laidAll ws).length := by rw [hb, laidAll_append, List.length_append]; omega
  refine ⟨H.hh, H.len, ⟨b ++ [w], by rw [hb, List.append_assoc]⟩, H.pos, H.top, H.tags, ?_, by rw [e]; exact hf, H.pages, ?_, H.rest⟩
  · intro s hs
    rw [List.flatten_append] at hs
    rcases List.mem_append.1 hs with g | g
    · exact H.small s g
    · exact hw s (by simpa using g)
  · intro j c hj hc
    exact H.sync j c hj (by rw [laidAll_append, List.getElem?_append_left (by omega)] at hc; exact hc)
/-- a Sync: all that was written is there -/
theorem EraS.synced (H : EraS S0 S p h A ws a) (hl : S2.length = S.length) (h1 : ∀ (j : Nat) (c : Bool × List UInt8), (laidAll a).length ≤ j → (laidAll ws)[j]? = some c → S2[h * (S0.length / 2) + (p + j)]? = some (leafPg A (p + j) c.1 c.2))
    (h2 : ∀ k, (∀ j, (laidAll a).length ≤ j → j < (laidAll ws).length → k ≠ h * (S0.length / 2) + (p + j)) → S2[k]? = S[k]?) : EraS S0 S2 p h A ws ws := by
  have hle : (laidAll a).length ≤ (laidAll ws).length := by obtain ⟨b, hb⟩ := H.pre; rw [hb, laidAll_append, List.length_append]; omega
  refine ⟨H.hh, hl.trans H.len, ⟨[], by simp⟩, H.pos, H.top, H.tags, H.small, H.fit, H.pages, ?_, ?_⟩
  · intro j c hj hc
    by_cases hja : j < (laidAll a).length
    · rw [h2 _ (fun j' g1 _ e => by omega)]; exact H.sync j c hja hc
    · exact h1 j c (by omega) hc
  · intro k hk
    rw [h2 k (fun j _ g2 => hk j g2)]
    exact H.rest k (fun j hj => hk j (by omega))
/-- more that was synced -/
theorem BaseS.grow (K : BaseS S0 B p h A a) (b : List Rcs) : BaseS S0 B p h A (a ++ b) := by
  have e : (laidAll (a ++ b)).length = (laidAll a).length + (laidAll b).length := by rw [laidAll_append, List.length_append]
  refine ⟨K.pgs, K.len, K.old, fun i hi => K.base i (by omega), ?_⟩
  have hst := K.st
  have hne : a.flatten ≠ [] → (a ++ b).flatten ≠ [] := fun g e => g (by rw [List.flatten_append] at e; exact (List.append_eq_nil_iff.1 e).1)
  unfold Stands at hst ⊢
  split at hst
  · rename_i h0; rw [if_pos h0]
    rcases hst with g | ⟨g1, g2, g3⟩
    · exact .inl g
    · exact .inr ⟨g1, hne g2, g3⟩
  · rename_i h0; rw [if_neg h0]
    rcases hst with g | ⟨g1, g2, g3⟩
    · exact .inl g
    · exact .inr ⟨g1, hne g2, g3⟩
end
/-- a turn begins: nothing of its age is there -/
theorem EraS.turn (S : List ByteArray) (g A : Nat) (s : List UInt8) (hg : g < 2) (hpos : 0 < A) (htop : A < 281474976710656) (ht : ∀ r ∈ S, tgA r < A ∧ tgB r < A) (hs : s.length < 16777216) (hf : needOf (recL s).length ≤ S.length / 2) (hp : S.length / 2 ≤ 65536) : EraS S S 0 g A [[s]] [] := by
  have e : (laidAll [[s]]).length = needOf (recL s).length := by rw [laidAll_one, laid_length]; simp [recsL]
  exact ⟨hg, rfl, ⟨[[s]], rfl⟩, hpos, htop, ht, fun x hx => by simp at hx; subst hx; exact hs, by rw [e]; omega, hp, fun j c hj _ => by simp [laidAll] at hj, fun k _ => rfl⟩
/-- a turn that was synced: the other half stands -/
theorem turned_base (S : List ByteArray) (g A : Nat) (s : List UInt8) (hg : g < 2) (_hA : 0 < A) (ht : ∀ r ∈ S, tgA r < A) (hn : 0 < S.length / 2) : BaseS S (none :: (halfL S g).tail) 0 g A [[s]] := by
  have hl := halfL_length S g
  have hne : laidAll [[s]] ≠ [] := fun e => by have := laid_empty _ e; simp at this
  have h1 : 1 ≤ (laidAll [[s]]).length := by cases hq : laidAll [[s]] with
    | nil => exact absurd hq hne
    | cons x t => simp
  have hp : pgsH (none :: (halfL S g).tail) = 0 := by unfold pgsH; rw [runS_stopped _ _ _ rfl]
  refine ⟨hp, by rw [List.length_cons, List.length_tail, hl]; omega, ?_, ?_, ?_⟩
  · intro x hx
    rcases List.mem_cons.1 hx with e | e
    · cases e
    · exact halfL_old hg ht x (List.mem_of_mem_tail e)
  · intro i hi
    cases i with
    | zero => omega
    | succ i =>
      cases hL : halfL S g with
      | nil => rw [hL] at hl; simp at hl; omega
      | cons x t => simp
  · have ho : ∀ q, q < 2 → ∀ x, some x ∈ halfL S q → x.age < A := fun q hq => halfL_old hq ht
    unfold Stands
    split
    · exact .inr ⟨hp, by simp, ho 1 (by omega)⟩
    · exact .inr ⟨hp, by simp, ho 0 (by omega)⟩
/-- parts of bytes take no less pages than all at once -/
theorem need_parts (m n : Nat) : needOf (m + n) ≤ needOf m + needOf n := by unfold needOf; omega
end Go.Proofs.Ythjlbfijfpfohaa
