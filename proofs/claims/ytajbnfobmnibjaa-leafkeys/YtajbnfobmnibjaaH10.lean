/-
  What the walks of leaf's laws share: a leaf in its box; Cut ahead of all; the largest key.
-/
import Derived.Test.YtajbnfobmnibjaaC10a
import Derived.Deep.DeepCutAuto
import Derived.BigQuiet
namespace Go.Proofs.Ytajbnfobmnibjaa
open Go.RowKit

/-- a leaf in its box -/
structure Bx (w : World) (B : Nat) (a : Option Addr) (C : Nat) (l : LfP) : Prop where
  box : At w B #[.slice a l.pairs.length C, .string l.high, .int .i64 l.next] 24
  pr : PrAt w a C l.pairs
section
variable {w w' : World} {B : Nat} {a : Option Addr} {C : Nat} {l : LfP}
theorem Bx.reads (h : Bx w B a C l) (b : Below w.heap.size w w') : Bx w' B a C l := ⟨h.box.reads b, h.pr.below b⟩
theorem Bx.new (h : PrAt w a C l.pairs) : Bx (w.alloc (.cells #[.slice a l.pairs.length C, .string l.high, .int .i64 l.next] 24)) w.heap.size a C l :=
  ⟨At.new _ _ _, h.below ((Below.refl _ w).alloc (Nat.le_refl _) _)⟩
theorem Bx.c0 (h : Bx w B a C l) : w.cell? ⟨B, 0, none⟩ = some (.slice a l.pairs.length C) := h.box.cell 0
theorem Bx.c1 (h : Bx w B a C l) : w.cell? ⟨B, 1, none⟩ = some (.string l.high) := h.box.cell 1
theorem Bx.c2 (h : Bx w B a C l) : w.cell? ⟨B, 2, none⟩ = some (.int .i64 l.next) := h.box.cell 2
theorem Bx.fz (h : Bx w B a C l) (j : Nat) : w.frozen? ⟨B, j, none⟩ = false := h.box.fz j
/-- another leaf stored into the box -/
theorem Bx.put {n : Option Addr} {m c : Nat} {s : ByteArray} {x : Int} (hA : At w B #[.slice n m c, .string s, .int .i64 x] 24) (hP : PrAt w a C l.pairs) :
    Bx (((w.setCell ⟨B, 0, none⟩ (.slice a l.pairs.length C)).setCell ⟨B, 1, none⟩ (.string l.high)).setCell ⟨B, 2, none⟩ (.int .i64 l.next)) B a C l :=
  ⟨hA.put3, PrAt.put3 hA hP _ _ _⟩
/-- its High, its Next, another one -/
theorem pairs_set {k : Nat} {v : Value} (h : Bx w B a C l) (_hk : k = 1 ∨ k = 2) (_hv : ∀ s, k = 2 → v ≠ .string s) (_hv2 : ∀ x y, k = 1 → v ≠ .int x y) {l' : Prs} (hP : PrAt w a C l') : PrAt (w.setCell ⟨B, k, none⟩ v) a C l' := by
  refine ⟨fun i p hp => ?_, hP.cap, hP.max, hP.nil, hP.form⟩
  obtain ⟨b, off, e, c0, c1⟩ := hP.at' i p hp
  by_cases hb : b = B
  · subst hb
    exfalso
    rw [h.box.cell] at c0 c1
    have : off + i * 2 = 0 ∨ off + i * 2 = 1 ∨ off + i * 2 = 2 ∨ 3 ≤ off + i * 2 := by omega
    rcases this with e | e | e | e
    · rw [e] at c0; simp at c0
    · rw [e] at c1; simp at c1
    · rw [e] at c0; simp at c0
    · have h0 := (Array.getElem?_eq_some_iff.1 c0).1
      simp at h0; omega
  · exact ⟨b, off, e, (World.cell?_of_block (Below.heap_setCell w ⟨B, k, none⟩ v b hb)).trans c0, (World.cell?_of_block (Below.heap_setCell w ⟨B, k, none⟩ v b hb)).trans c1⟩
theorem Bx.setHigh (h : Bx w B a C l) (s : ByteArray) : Bx (w.setCell ⟨B, 1, none⟩ (.string s)) B a C ⟨l.pairs, s, l.next⟩ :=
  ⟨h.box.set 1 _, pairs_set h (.inl rfl) (fun _ e => by cases e) (fun _ _ _ => by simp) h.pr⟩
theorem Bx.setNext (h : Bx w B a C l) (x : Int) : Bx (w.setCell ⟨B, 2, none⟩ (.int .i64 x)) B a C ⟨l.pairs, l.high, x⟩ :=
  ⟨h.box.set 2 _, pairs_set h (.inr rfl) (fun _ _ => by simp) (fun _ _ e => by cases e) h.pr⟩
end
/-- the leaf that came in, in its box, and what has become of the world since -/
structure InA (w0 w : World) (B : Nat) (a : Option Addr) (C : Nat) (l : LfP) : Prop where
  x : Bx w B a C l
  bel : Below w0.heap.size w0 w
  ge : w0.heap.size ≤ B
theorem InA.reads {w0 w w' : World} {B : Nat} {a : Option Addr} {C : Nat} {l : LfP} (h : InA w0 w B a C l) (b : Below w.heap.size w w') : InA w0 w' B a C l := ⟨h.x.reads b, h.bel.trans (b.mono h.bel.size), h.ge⟩
theorem InA.put {w0 w : World} {B : Nat} {a : Option Addr} {C : Nat} {l : LfP} {n : Option Addr} {m c : Nat} {s : ByteArray} {x : Int} (hA : At w B #[.slice n m c, .string s, .int .i64 x] 24) (hP : PrAt w a C l.pairs) (hb : Below w0.heap.size w0 w) (hg : w0.heap.size ≤ B) :
    InA w0 (((w.setCell ⟨B, 0, none⟩ (.slice a l.pairs.length C)).setCell ⟨B, 1, none⟩ (.string l.high)).setCell ⟨B, 2, none⟩ (.int .i64 l.next)) B a C l := ⟨Bx.put hA hP, below_put3 hb hg, hg⟩
theorem InA.setHigh {w0 w : World} {B : Nat} {a : Option Addr} {C : Nat} {l : LfP} (h : InA w0 w B a C l) (s : ByteArray) : InA w0 (w.setCell ⟨B, 1, none⟩ (.string s)) B a C ⟨l.pairs, s, l.next⟩ := ⟨h.x.setHigh s, h.bel.setCell (p := ⟨B, 1, none⟩) h.ge _, h.ge⟩
theorem InA.setNext {w0 w : World} {B : Nat} {a : Option Addr} {C : Nat} {l : LfP} (h : InA w0 w B a C l) (x : Int) : InA w0 (w.setCell ⟨B, 2, none⟩ (.int .i64 x)) B a C ⟨l.pairs, l.high, x⟩ := ⟨h.x.setNext x, h.bel.setCell (p := ⟨B, 2, none⟩) h.ge _, h.ge⟩
theorem ArgLeaf.below {w w' : World} {a : Option Addr} {l : LfP} (h : ArgLeaf w a l) (b : Below w.heap.size w w') : ArgLeaf w' a l := ⟨⟨h.prs.prs.below b, h.prs.len, h.prs.each⟩, h.high⟩
section
variable {w0 w : World} {B B' : Nat} {a : Option Addr} {C : Nat} {l : LfP} {n : Option Addr} {m c : Nat} {s : ByteArray} {x : Int}
theorem Bx.far3 (h : Bx w B a C l) (hA : At w B' #[.slice n m c, .string s, .int .i64 x] 24) (hne : B' ≠ B) (u v t : Value) : Bx (((w.setCell ⟨B', 0, none⟩ u).setCell ⟨B', 1, none⟩ v).setCell ⟨B', 2, none⟩ t) B a C l :=
  ⟨((h.box.setOther 0 u hne).setOther 1 v hne).setOther 2 t hne, PrAt.put3 hA h.pr u v t⟩
theorem InA.far3 (h : InA w0 w B a C l) (hA : At w B' #[.slice n m c, .string s, .int .i64 x] 24) (hne : B' ≠ B) (hg : w0.heap.size ≤ B') (u v t : Value) : InA w0 (((w.setCell ⟨B', 0, none⟩ u).setCell ⟨B', 1, none⟩ v).setCell ⟨B', 2, none⟩ t) B a C l :=
  ⟨h.x.far3 hA hne u v t, below_put3 h.bel hg, h.ge⟩
theorem At.far3 {cs : Array Value} {T : TypeId} (h : At w B cs T) (hne : B' ≠ B) (u v t : Value) : At (((w.setCell ⟨B', 0, none⟩ u).setCell ⟨B', 1, none⟩ v).setCell ⟨B', 2, none⟩ t) B cs T := ((h.setOther 0 u hne).setOther 1 v hne).setOther 2 t hne
theorem ArgLeaf.put3 (h : ArgLeaf w a l) (hA : At w B' #[.slice n m c, .string s, .int .i64 x] 24) (u v t : Value) : ArgLeaf (((w.setCell ⟨B', 0, none⟩ u).setCell ⟨B', 1, none⟩ v).setCell ⟨B', 2, none⟩ t) a l :=
  ⟨⟨pairs_put3 hA h.prs.prs u v t, h.prs.len, h.prs.each⟩, h.high⟩
end
/-- what is known of a short leaf -/
structure Short (q : LfP) : Prop where
  sm : SmallP q.pairs
  len : q.pairs.length ≤ 3060
  wt : wgt q.pairs ≤ 6120
  hi : q.high.size ≤ 40
theorem cut_short (l : LfP) : Short (cutLf l) := ⟨cutLf_small l, by have := cutLf_len l; omega, cutLf_wgt l, cutLf_high l⟩
theorem right_short {q : LfP} (h : rightL q = true) : Short q := ⟨rightL_small h, by have := wgt_len q.pairs; have := rightL_wgt h; omega, by have := rightL_wgt h; omega, by have := rightL_high h; omega⟩
/-! the largest key -/
def ffB : ByteArray := ⟨#[255, 255, 255, 255, 255, 255, 255, 255, 255, 255, 255, 255, 255, 255, 255, 255]⟩
theorem lex_ff : ∀ (n : Nat) (a : List UInt8), a.length ≤ n → a ≠ List.replicate n 255 → lexB a (List.replicate n 255) = true
  | 0, [], _, h => absurd rfl h
  | 0, _ :: _, h, _ => by simp at h
  | n + 1, [], _, _ => rfl
  | n + 1, x :: a, h1, h2 => by
    rw [List.replicate_succ]
    unfold lexB
    by_cases hx : x = 255
    · subst hx
      rw [if_pos rfl]
      exact lex_ff n a (by simpa using h1) (fun e => h2 (by rw [e, List.replicate_succ]))
    · rw [if_neg hx, decide_eq_true_iff]
      have := x.toNat_lt
      have h3 : x.toNat ≠ 255 := fun e => hx (UInt8.toNat_inj.1 e)
      show x.toNat < 255
      omega
theorem less_ff {k : ByteArray} (hk : k.size ≤ 16) (h : k ≠ ffB) : lessB k ffB = true := by
  have e : ffB.data.toList = List.replicate 16 255 := by decide
  unfold lessB
  rw [e]
  exact lex_ff 16 _ (by rw [← Lib.size_eq]; exact hk) (fun h2 => h (ba_ext (by rw [h2, e])))
/-! the calls, of a leaf in its box -/
section
variable {w0 W : World} {B Bb : Nat} {a b : Option Addr} {C D : Nat} {q r : LfP}
theorem k_right (h : Bx W B a C q) (s : Short q) : Calls Try.prog 13 #[.agg #[.slice a q.pairs.length C, .string q.high, .int .i64 q.next]] W fun e w' => e = .returned (.bool (rightL q)) ∧ Below W.heap.size W w' :=
  right10 a C q W h.pr.at' s.sm (by have := s.hi; omega) (by have := s.wt; omega)
theorem k_size (h : Bx W B a C q) (s : Short q) : Calls Try.prog 16 #[.agg #[.slice a q.pairs.length C, .string q.high, .int .i64 q.next]] W fun e w' => e = .returned (.int .i64 (sizeL q : Int)) ∧ Below W.heap.size W w' :=
  size10 a C q W h.pr.at' (by have := s.hi; omega) (by have := s.wt; omega)
def encT (q : LfP) : ByteArray := if rightL q then baL10 (encLf q) else ⟨#[]⟩
theorem encT_yes {q : LfP} (h : rightL q = true) : encT q = baL10 (encLf q) := by unfold encT; rw [h]; rfl
theorem encT_no {q : LfP} (h : rightL q = false) : encT q = ⟨#[]⟩ := by unfold encT; rw [h]; rfl
theorem k_encode (h : Bx W B a C q) (s : Short q) : Calls Try.prog 18 #[.agg #[.slice a q.pairs.length C, .string q.high, .int .i64 q.next]] W fun e w' => e = .returned (.string (encT q)) ∧ Below W.heap.size W w' := by
  cases hr : rightL q with
  | true => rw [encT_yes hr]; exact encode10_yes a C q W h.pr.at' s.sm (by have := s.hi; omega) (by have := s.wt; omega) hr
  | false => rw [encT_no hr]; exact encode10_no a C q W h.pr.at' s.sm (by have := s.hi; omega) (by have := s.wt; omega) hr
theorem k_same (h : Bx W B a C q) (h2 : Bx W Bb b D r) (s : Short q) (s2 : Short r) : Calls Try.prog 20 #[.agg #[.slice a q.pairs.length C, .string q.high, .int .i64 q.next], .agg #[.slice b r.pairs.length D, .string r.high, .int .i64 r.next]] W fun e w' => e = .returned (.bool (sameL q r)) ∧ Below W.heap.size W w' :=
  same10 a b C D q r W h.pr.at' h2.pr.at' (by have := s.len; omega) (by have := s2.len; omega)
theorem k_get (h : Bx W B a C q) (s : Short q) (k : ByteArray) : Calls Try.prog 23 #[.agg #[.slice a q.pairs.length C, .string q.high, .int .i64 q.next], .string k] W fun e w' => e = .returned (.tuple #[.string (getT q k), .int .i64 (getE q k)]) ∧ Below W.heap.size W w' :=
  get10 a C q k W h.pr.at' s.sm (by have := s.hi; omega) (by have := s.wt; omega)
/-- what a call answers that makes a leaf -/
def LOut (w : World) (l : LfP) (er : Int) (e : Ending) (w' : World) : Prop := ∃ a C, e = .returned (.tuple #[.agg #[.slice a l.pairs.length C, .string l.high, .int .i64 l.next], .int .i64 er]) ∧ PrAt w' a C l.pairs ∧ Below w.heap.size w w'
theorem k_put (h : Bx W B a C q) (s : Short q) (k v : ByteArray) (hk : k.size ≤ 1000) (hv : v.size ≤ 1000) : Calls Try.prog 25 #[.agg #[.slice a q.pairs.length C, .string q.high, .int .i64 q.next], .string k, .string v] W (LOut W (putL q k v) (putE q k v)) :=
  put10 a C q k v W h.pr s.sm (by have := s.hi; omega) (by have := s.wt; omega) (by omega) (by omega)
theorem k_del (h : Bx W B a C q) (s : Short q) (k : ByteArray) : Calls Try.prog 27 #[.agg #[.slice a q.pairs.length C, .string q.high, .int .i64 q.next], .string k] W (LOut W (delL q k) (delE q k)) :=
  del10 a C q k W h.pr s.sm (by have := s.hi; omega) (by have := s.wt; omega)
theorem k_join (h : Bx W B a C q) (h2 : Bx W Bb b D r) (s : Short q) (s2 : Short r) : Calls Try.prog 31 #[.agg #[.slice a q.pairs.length C, .string q.high, .int .i64 q.next], .agg #[.slice b r.pairs.length D, .string r.high, .int .i64 r.next]] W (LOut W (joinL q r) (joinE q r)) :=
  join10 a b C D q r W h.pr h2.pr s.sm s2.sm (by have := s.hi; omega) (by have := s2.hi; omega) (by have := s.wt; omega) (by have := s2.wt; omega)
def SOut (w : World) (A B : LfP) (er : Int) (e : Ending) (w' : World) : Prop := ∃ a C b D, e = .returned (.tuple #[.agg #[.slice a A.pairs.length C, .string A.high, .int .i64 A.next], .agg #[.slice b B.pairs.length D, .string B.high, .int .i64 B.next], .int .i64 er]) ∧ PrAt w' a C A.pairs ∧ PrAt w' b D B.pairs ∧ Below w.heap.size w w'
theorem k_split (h : Bx W B a C q) (s : Short q) (pg : Int) : Calls Try.prog 29 #[.agg #[.slice a q.pairs.length C, .string q.high, .int .i64 q.next], .int .i64 pg] W (SOut W (splitA q pg) (splitB q pg) (splitE q pg)) :=
  split10 a C q pg W h.pr s.sm (by have := s.hi; omega) (by have := s.wt; omega)
theorem k_decode (s : ByteArray) (hs : s.size ≤ 1000) : Calls Try.prog 11 #[.string s] W (LOut W (decL s.data.toList) (decE s.data.toList)) := decode10 s W (by omega)
end
theorem Bx.cells {w : World} {B : Nat} {a : Option Addr} {C : Nat} {l : LfP} (h : Bx w B a C l) : (fun W : World => W.cell? ⟨B, 0, none⟩ = some (.slice a l.pairs.length C) ∧ W.cell? ⟨B, 1, none⟩ = some (.string l.high) ∧ W.cell? ⟨B, 2, none⟩ = some (.int .i64 l.next)) w := ⟨h.c0, h.c1, h.c2⟩
end Go.Proofs.Ytajbnfobmnibjaa
