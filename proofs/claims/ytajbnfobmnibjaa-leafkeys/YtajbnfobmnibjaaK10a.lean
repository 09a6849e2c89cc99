/-
  Leaves, plain: which may be, how large they are, where a key stands, what is put, taken out, split, joined. No program in this text.
-/
import Derived.Test.YtajbnfobmnibjaaC05b
import Derived.Laws.Cover1
namespace Go.Proofs.Ytajbnfobmnibjaa
open Go.RowKit

structure LfP where
  pairs : Prs
  high : ByteArray
  next : Int
def noB : ByteArray := ⟨#[]⟩
def pairN (p : ByteArray × ByteArray) : Nat := 2 + p.1.size + p.2.size
def wgt : Prs → Nat
  | [] => 0
  | p :: l => pairN p + wgt l
theorem wgt_app : ∀ a b : Prs, wgt (a ++ b) = wgt a + wgt b
  | [], b => by simp [wgt]
  | p :: a, b => by simp [wgt, wgt_app a b]; omega
theorem wgt_len : ∀ a : Prs, 2 * a.length ≤ wgt a
  | [] => by simp [wgt]
  | p :: a => by have := wgt_len a; simp [wgt, pairN]; omega
def sizeL (l : LfP) : Nat := 5 + l.high.size + wgt l.pairs
/-- is the last key below a text? -/
def lastB (pr : Prs) (h : ByteArray) : Bool := match pr.getLast? with | none => true | some p => lessB p.1 h
def highB (l : LfP) : Bool := decide (l.high = noB) || (keyB l.high && lastB l.pairs l.high)
def rightL (l : LfP) : Bool := decide (wgt l.pairs ≤ 231) && (risesB l.pairs && (highB l && (decide (0 ≤ l.next) && decide (l.next ≤ 1024))))
theorem rightL_iff {l : LfP} : rightL l = true ↔ wgt l.pairs ≤ 231 ∧ risesB l.pairs = true ∧ highB l = true ∧ 0 ≤ l.next ∧ l.next ≤ 1024 := by unfold rightL; simp
theorem rightL_len {l : LfP} (h : rightL l = true) : l.pairs.length ≤ 115 := by have := (rightL_iff.1 h).1; have := wgt_len l.pairs; omega

/-! the order of texts -/
theorem lexI10 : ∀ a : List UInt8, lexB a a = false
  | [] => rfl
  | x :: a => by simp [lexB, lexI10 a]
theorem lexT10 : ∀ a b c : List UInt8, lexB a b = true → lexB b c = true → lexB a c = true
  | [], [], _, h, _ => by simp [lexB] at h
  | [], _ :: _, [], _, h => by simp [lexB] at h
  | [], _ :: _, _ :: _, _, _ => rfl
  | _ :: _, [], _, h, _ => by simp [lexB] at h
  | _ :: _, _ :: _, [], _, h => by simp [lexB] at h
  | x :: a, y :: b, z :: c, h1, h2 => by
    unfold lexB at h1 h2 ⊢
    by_cases e1 : x = y
    · subst e1
      rw [if_pos rfl] at h1
      by_cases e2 : x = z
      · subst e2; rw [if_pos rfl] at h2 ⊢; exact lexT10 a b c h1 h2
      · rw [if_neg e2] at h2 ⊢; exact h2
    · rw [if_neg e1] at h1
      by_cases e2 : y = z
      · subst e2; rw [if_neg e1]; exact h1
      · rw [if_neg e2] at h2
        simp only [decide_eq_true_eq] at h1 h2
        by_cases e3 : x = z
        · subst e3; omega
        · rw [if_neg e3, decide_eq_true (by omega)]
theorem lexA10 : ∀ a b : List UInt8, lexB a b = false → lexB b a = false → a = b
  | [], [], _, _ => rfl
  | [], _ :: _, h, _ => by simp [lexB] at h
  | _ :: _, [], _, h => by simp [lexB] at h
  | x :: a, y :: b, h1, h2 => by
    unfold lexB at h1 h2
    by_cases e : x = y
    · subst e; rw [if_pos rfl] at h1 h2; rw [lexA10 a b h1 h2]
    · rw [if_neg e] at h1
      rw [if_neg (fun e2 => e e2.symm)] at h2
      simp only [decide_eq_false_iff_not] at h1 h2
      exact absurd (UInt8.toNat_inj.1 (by omega)) e
theorem lexL10 : ∀ a b : List UInt8, Op.bytesLess a b = lexB a b
  | [], [] => by simp [Op.bytesLess, lexB]
  | _ :: _, [] => by simp [Op.bytesLess, lexB]
  | [], _ :: _ => by simp [Op.bytesLess, lexB]
  | x :: a, y :: b => by
    rw [Op.bytesLess, lexL10 a b, lexB]
    by_cases h : x = y
    · subst h; simp
    · rw [if_neg h]
      have : x.toNat ≠ y.toNat := fun e => h (UInt8.toNat_inj.1 e)
      simp [h, UInt8.lt_iff_toNat_lt]
theorem lessI (a : ByteArray) : lessB a a = false := lexI10 _
theorem lessT {a b c : ByteArray} (h : lessB a b = true) (h' : lessB b c = true) : lessB a c = true := lexT10 _ _ _ h h'
theorem lessA {a b : ByteArray} (h : lessB a b = false) (h' : lessB b a = false) : a = b := ba_ext (lexA10 _ _ h h')
theorem lessN {a b : ByteArray} (h : lessB a b = true) : lessB b a = false := by
  cases hb : lessB b a with
  | false => rfl
  | true => have := lessT h hb; rw [lessI] at this; cases this
theorem lessL {a b c : ByteArray} (h : lessB a b = true) (h' : lessB c b = false) : lessB a c = true := by
  by_cases e : b = c
  · subst e; exact h
  · cases hbc : lessB b c with
    | true => exact lessT h hbc
    | false => exact absurd (lessA hbc h') e
theorem lessNe {a b : ByteArray} (h : lessB a b = true) : a ≠ b := fun e => by subst e; rw [lessI] at h; cases h
/-- 'a < b' in a walk -/
theorem lss10 (a b : ByteArray) : Op.bytesLess a.toList b.toList = lessB a b := by rw [lexL10, Lib.toList_data, Lib.toList_data]; rfl
theorem beq10 (a b : ByteArray) : (a.toList == b.toList) = decide (a = b) := by rw [Lib.toList_data, Lib.toList_data, Bool.eq_iff_iff, beq_iff_eq, decide_eq_true_iff]; exact ⟨fun h => ba_ext h, fun h => by rw [h]⟩
/-- 'a <= b' in a walk -/
theorem leq10 (a b : ByteArray) : (Op.bytesLess a.toList b.toList || a.toList == b.toList) = !lessB b a := by
  rw [lss10, beq10]
  by_cases e : a = b
  · subst e; simp [lessI]
  · rw [decide_eq_false e, Bool.or_false]
    cases h : lessB a b with
    | true => rw [lessN h]; rfl
    | false =>
      cases h2 : lessB b a with
      | true => rfl
      | false => exact absurd (lessA h h2) e
theorem empty10 (s : ByteArray) : s.toList.isEmpty = decide (s = noB) := by
  by_cases e : s = noB
  · subst e; rw [Lib.toList_data]; rfl
  · rw [decide_eq_false e]
    cases h : s.toList with
    | nil => exact absurd (ba_ext (by rw [← Lib.toList_data, h]; rfl)) e
    | cons x l => rfl
theorem less_no (s : ByteArray) (h : keyB s = true) : lessB noB s = true := by
  have := (keyB_size h).1
  unfold lessB
  rw [Lib.size_eq] at this
  cases hs : s.data.toList with
  | nil => rw [hs] at this; simp at this
  | cons x l => rfl
theorem key_ne {s : ByteArray} (h : keyB s = true) : s ≠ noB := fun e => by subst e; revert h; decide

/-! rows that rise -/
structure Rise (l : Prs) : Prop where
  ok : ∀ p ∈ l, keyB p.1 = true ∧ valB p.2 = true
  ord : l.Pairwise (fun p q => lessB p.1 q.1 = true)
theorem rises_iff : ∀ l : Prs, risesB l = true ↔ Rise l
  | [] => ⟨fun _ => ⟨fun _ h => (by cases h), List.Pairwise.nil⟩, fun _ => rfl⟩
  | [p] => by
    constructor
    · intro h
      simp only [risesB, Bool.and_eq_true] at h
      exact ⟨fun q hq => by obtain rfl := List.mem_singleton.1 hq; exact h, by simp⟩
    · intro h
      have := h.ok p (by simp)
      simp [risesB, this.1, this.2]
  | p :: q :: l => by
    have ih := rises_iff (q :: l)
    constructor
    · intro h
      simp only [risesB, Bool.and_eq_true] at h
      obtain ⟨⟨⟨h1, h2⟩, h3⟩, h4⟩ := h
      have r := ih.1 (by simpa [risesB] using h4)
      refine ⟨fun z hz => ?_, List.pairwise_cons.2 ⟨fun z hz => ?_, r.ord⟩⟩
      · rcases List.mem_cons.1 hz with rfl | hz
        · exact ⟨h1, h2⟩
        · exact r.ok z hz
      · rcases List.mem_cons.1 hz with rfl | hz
        · exact h3
        · exact lessT h3 ((List.pairwise_cons.1 r.ord).1 z hz)
    · intro h
      have h1 := h.ok p (by simp)
      have h2 := List.pairwise_cons.1 h.ord
      have r := ih.2 ⟨fun z hz => h.ok z (List.mem_cons_of_mem _ hz), h2.2⟩
      simp only [risesB, Bool.and_eq_true]
      exact ⟨⟨⟨h1.1, h1.2⟩, h2.1 q (by simp)⟩, by simpa [risesB] using r⟩
theorem Rise.take {l : Prs} (h : Rise l) (k : Nat) : Rise (l.take k) := ⟨fun p hp => h.ok p (List.mem_of_mem_take hp), h.ord.sublist (List.take_sublist _ _)⟩
theorem Rise.drop {l : Prs} (h : Rise l) (k : Nat) : Rise (l.drop k) := ⟨fun p hp => h.ok p (List.mem_of_mem_drop hp), h.ord.sublist (List.drop_sublist _ _)⟩
theorem Rise.app {a b : Prs} (h1 : Rise a) (h2 : Rise b) (h : ∀ p ∈ a, ∀ q ∈ b, lessB p.1 q.1 = true) : Rise (a ++ b) :=
  ⟨fun p hp => (List.mem_append.1 hp).elim (h1.ok p) (h2.ok p), List.pairwise_append.2 ⟨h1.ord, h2.ord, h⟩⟩
theorem lastB_iff {pr : Prs} (h : Rise pr) (s : ByteArray) : lastB pr s = true ↔ ∀ p ∈ pr, lessB p.1 s = true := by
  unfold lastB
  cases hl : pr.getLast? with
  | none =>
    have : pr = [] := List.getLast?_eq_none_iff.1 hl
    subst this; simp
  | some q =>
    obtain ⟨ys, rfl⟩ := List.getLast?_eq_some_iff.1 hl
    constructor
    · intro hq p hp
      rcases List.mem_append.1 hp with hp | hp
      · exact lessT ((List.pairwise_append.1 h.ord).2.2 p hp q (by simp)) hq
      · obtain rfl := List.mem_singleton.1 hp; exact hq
    · intro hq; exact hq q (by simp)
/-- where a key stands, or would -/
def findN (l : Prs) (k : ByteArray) : Nat := (l.takeWhile (fun p => lessB p.1 k)).length
def hasN (l : Prs) (k : ByteArray) : Bool := match l[findN l k]? with | none => false | some p => decide (p.1 = k)
theorem findN_le (l : Prs) (k : ByteArray) : findN l k ≤ l.length := (List.takeWhile_prefix _).length_le
theorem findN_take (l : Prs) (k : ByteArray) : l.take (findN l k) = l.takeWhile (fun p => lessB p.1 k) := (List.prefix_iff_eq_take.1 (List.takeWhile_prefix _)).symm
theorem take_pos {x : ByteArray × ByteArray} {l : Prs} {k : ByteArray} (hx : lessB x.1 k = true) : (x :: l).takeWhile (fun p => lessB p.1 k) = x :: l.takeWhile (fun p => lessB p.1 k) := List.takeWhile_cons_of_pos (p := fun p : ByteArray × ByteArray => lessB p.1 k) hx
theorem take_neg {x : ByteArray × ByteArray} {l : Prs} {k : ByteArray} (hx : lessB x.1 k = false) : (x :: l).takeWhile (fun p => lessB p.1 k) = [] := List.takeWhile_cons_of_neg (p := fun p : ByteArray × ByteArray => lessB p.1 k) (by simp [hx])
theorem findN_below {l : Prs} {k : ByteArray} : ∀ p ∈ l.take (findN l k), lessB p.1 k = true := by
  rw [findN_take]
  intro p hp
  have := List.all_takeWhile (p := fun p : ByteArray × ByteArray => lessB p.1 k) (l := l)
  exact List.all_eq_true.1 this p hp
theorem findN_at {l : Prs} {k : ByteArray} {p : ByteArray × ByteArray} (h : l[findN l k]? = some p) : lessB p.1 k = false := by
  induction l with
  | nil => simp at h
  | cons x l ih =>
    unfold findN at h
    cases hx : lessB x.1 k with
    | true =>
      rw [take_pos hx] at h
      simp only [List.length_cons, List.getElem?_cons_succ] at h
      exact ih h
    | false =>
      rw [take_neg hx] at h
      simp at h
      rw [← h]; exact hx
/-- the place is known by what is ahead and behind -/
theorem findN_is {l : Prs} {k : ByteArray} {n : Nat} (hn : n ≤ l.length) (h1 : ∀ p ∈ l.take n, lessB p.1 k = true) (h2 : ∀ p, l[n]? = some p → lessB p.1 k = false) : findN l k = n := by
  induction l generalizing n with
  | nil => simp at hn; subst hn; rfl
  | cons x l ih =>
    cases n with
    | zero =>
      have := h2 x rfl
      unfold findN; rw [take_neg this]; rfl
    | succ n =>
      have hx := h1 x (by simp)
      have := ih (n := n) (by simpa using hn) (fun p hp => h1 p (by simp [hp])) (fun p hp => h2 p (by simpa using hp))
      unfold findN at this ⊢
      rw [take_pos hx, List.length_cons, this]
theorem findN_behind {l : Prs} (h : Rise l) {k : ByteArray} : ∀ p ∈ l.drop (findN l k), lessB p.1 k = false := by
  intro p hp
  cases hd : l.drop (findN l k) with
  | nil => rw [hd] at hp; cases hp
  | cons q r =>
    have hq : l[findN l k]? = some q := by
      have := congrArg (·[0]?) hd
      simpa using this
    have hk := findN_at hq
    rw [hd] at hp
    rcases List.mem_cons.1 hp with rfl | hp
    · exact hk
    · have hr := (h.drop (findN l k)).ord
      rw [hd] at hr
      have := (List.pairwise_cons.1 hr).1 p hp
      cases h3 : lessB p.1 k with
      | false => rfl
      | true => rw [lessT this h3] at hk; cases hk
def getP (l : Prs) (k : ByteArray) : Option ByteArray := if hasN l k then (l[findN l k]?).map (·.2) else none
def putPl (l : Prs) (k v : ByteArray) : Prs := l.take (findN l k) ++ (k, v) :: l.drop (if hasN l k then findN l k + 1 else findN l k)
def delPl (l : Prs) (k : ByteArray) : Prs := l.take (findN l k) ++ l.drop (findN l k + 1)
theorem hasN_iff {l : Prs} {k : ByteArray} : hasN l k = true ↔ ∃ v, l[findN l k]? = some (k, v) := by
  unfold hasN
  cases h : l[findN l k]? with
  | none => simp
  | some p =>
    simp only [decide_eq_true_eq, Option.some.injEq]
    constructor
    · intro e; exact ⟨p.2, by rw [← e]⟩
    · rintro ⟨v, e⟩; rw [e]
/-- behind a key that is there, all are above it -/
theorem behind_has {l : Prs} (h : Rise l) {k : ByteArray} {p : ByteArray × ByteArray} (hp : p ∈ l.drop (if hasN l k then findN l k + 1 else findN l k)) : lessB k p.1 = true := by
  cases hh : hasN l k with
  | true =>
    rw [hh, if_pos rfl] at hp
    obtain ⟨v, hv⟩ := hasN_iff.1 hh
    have hlt := (List.getElem?_eq_some_iff.1 hv).1
    have hd := List.drop_eq_getElem_cons hlt
    rw [(List.getElem?_eq_some_iff.1 hv).2] at hd
    have hr := (h.drop (findN l k)).ord
    rw [hd] at hr
    exact (List.pairwise_cons.1 hr).1 p hp
  | false =>
    rw [hh, if_neg (by simp)] at hp
    have h1 := findN_behind h p hp
    cases h2 : lessB k p.1 with
    | true => rfl
    | false =>
      have e := lessA h1 h2
      exfalso
      obtain ⟨i, hi, rfl⟩ := List.mem_iff_getElem.1 hp
      rw [List.getElem_drop] at e h1
      have hi' : findN l k + i < l.length := by simp at hi; omega
      cases i with
      | zero =>
        have : hasN l k = true := hasN_iff.2 ⟨(l[findN l k]).2, by rw [List.getElem?_eq_getElem (by omega)]; exact congrArg some (Prod.ext (by simpa using e) rfl)⟩
        rw [hh] at this; cases this
      | succ i =>
        have h3 := List.pairwise_iff_getElem.1 h.ord (findN l k) (findN l k + (i + 1)) (by omega) hi' (by omega)
        have h4 := findN_at (List.getElem?_eq_getElem (show findN l k < l.length by omega))
        rw [e] at h3
        rw [h3] at h4; cases h4
theorem putPl_rise {l : Prs} (h : Rise l) {k v : ByteArray} (hk : keyB k = true) (hv : valB v = true) : Rise (putPl l k v) := by
  unfold putPl
  refine (h.take _).app ⟨fun p hp => ?_, List.pairwise_cons.2 ⟨fun p hp => behind_has h hp, (h.drop _).ord⟩⟩ (fun p hp q hq => ?_)
  · rcases List.mem_cons.1 hp with rfl | hp
    · exact ⟨hk, hv⟩
    · exact (h.drop _).ok p hp
  · have h1 := findN_below p hp
    rcases List.mem_cons.1 hq with rfl | hq
    · exact h1
    · exact lessT h1 (behind_has h hq)
theorem delPl_rise {l : Prs} (h : Rise l) (k : ByteArray) : Rise (delPl l k) := by
  unfold delPl
  have hs : (l.take (findN l k) ++ l.drop (findN l k + 1)).Sublist l := by
    conv => rhs; rw [← List.take_append_drop (findN l k) l]
    exact List.Sublist.append_left (List.drop_sublist_drop_left l (Nat.le_succ _)) _
  exact ⟨fun p hp => h.ok p (hs.subset hp), h.ord.sublist hs⟩
end Go.Proofs.Ytajbnfobmnibjaa
