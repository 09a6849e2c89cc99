/-
  Plain facts on records: which may be, their bytes, and that these are each one's own. No program in this text.
-/
import Derived.Test.YtajbnfobmnibjaaM1
import Derived.Test.YtajbnfobmnibjaaM2
namespace Go.Proofs.Ytajbnfobmnibjaa

/-- a record -/
structure RecP where
  kind : Int
  txn : Int
  key : ByteArray
  value : ByteArray
  pass : Int
  unit : Int
  num : Int
  pairs : List (ByteArray × ByteArray)

def keyB (s : ByteArray) : Bool := decide (1 ≤ s.size ∧ s.size ≤ 16)
def valB (s : ByteArray) : Bool := decide (s.size ≤ 32)
/-- is a row of bytes ahead of another one? -/
def lexB : List UInt8 → List UInt8 → Bool
  | [], [] => false
  | [], _ :: _ => true
  | _ :: _, [] => false
  | a :: l, b :: m => if a = b then lexB l m else decide (a.toNat < b.toNat)
def lessB (a b : ByteArray) : Bool := lexB a.data.toList b.data.toList
/-- each a key with a value, keys rising -/
def risesB : List (ByteArray × ByteArray) → Bool
  | [] => true
  | [p] => keyB p.1 && valB p.2
  | p :: q :: l => keyB p.1 && valB p.2 && lessB p.1 q.1 && risesB (q :: l)
def rowB (l : List (ByteArray × ByteArray)) : Bool := decide (l.length ≤ 4000) && risesB l
def top : Int := 1099511627776
/-- a record may be -/
def RightP (r : RecP) : Prop :=
  1 ≤ r.kind ∧ r.kind ≤ 7 ∧
  (if r.kind ≤ 5 then 1 ≤ r.txn ∧ r.txn ≤ top ∧ r.pass = 0 ∧ r.unit = 0 ∧ r.num = 0 else r.txn = 0 ∧ 0 ≤ r.pass ∧ r.pass ≤ 4 ∧ 0 ≤ r.unit ∧ r.unit ≤ top ∧ 0 ≤ r.num ∧ r.num ≤ top) ∧
  (if r.kind = 2 ∨ r.kind = 3 then keyB r.key = true else r.key = ⟨#[]⟩) ∧
  (if r.kind = 2 then valB r.value = true else r.value = ⟨#[]⟩) ∧
  (if r.kind = 7 then rowB r.pairs = true else r.pairs = [])

/-- a text behind its length -/
def txtL (s : ByteArray) : List UInt8 := s.size.toUInt8 :: s.data.toList
def num6 (n : Int) : List UInt8 := Lib.leBytes 6 n.toNat
def pairL (p : ByteArray × ByteArray) : List UInt8 := txtL p.1 ++ txtL p.2
def pairsL (l : List (ByteArray × ByteArray)) : List UInt8 := l.flatMap pairL
/-- a record's bytes -/
def encL (r : RecP) : List UInt8 :=
  r.kind.toNat.toUInt8 :: ((if r.kind ≤ 5 then num6 r.txn else num6 r.pass ++ (num6 r.unit ++ num6 r.num)) ++
    ((if r.kind = 2 ∨ r.kind = 3 then txtL r.key else []) ++ ((if r.kind = 2 then txtL r.value else []) ++ (if r.kind = 7 then Lib.leBytes 2 r.pairs.length ++ pairsL r.pairs else []))))

theorem toUInt8_inj {a b : Nat} (ha : a < 256) (hb : b < 256) (h : a.toUInt8 = b.toUInt8) : a = b := by
  have := congrArg UInt8.toNat h
  simp only [Nat.toUInt8, UInt8.toNat_ofNat'] at this
  omega
theorem txtL_unique {s t : ByteArray} {x y : List UInt8} (hs : s.size ≤ 255) (ht : t.size ≤ 255) (h : txtL s ++ x = txtL t ++ y) : s = t ∧ x = y := by
  unfold txtL at h
  rw [List.cons_append, List.cons_append] at h
  injection h with h1 h2
  have hl : s.data.toList.length = t.data.toList.length := by rw [← Lib.size_eq, ← Lib.size_eq]; exact toUInt8_inj (by omega) (by omega) h1
  obtain ⟨h3, h4⟩ := List.append_inj h2 hl
  exact ⟨ba_ext h3, h4⟩
theorem leBytes_unique {k a b : Nat} {x y : List UInt8} (ha : a < 256 ^ k) (hb : b < 256 ^ k) (h : Lib.leBytes k a ++ x = Lib.leBytes k b ++ y) : a = b ∧ x = y := by
  obtain ⟨h1, h2⟩ := List.append_inj h (by rw [Lib.leBytes_length, Lib.leBytes_length])
  refine ⟨?_, h2⟩
  have := congrArg Lib.leNat h1
  rwa [Lib.leNat_leBytes _ _ ha, Lib.leNat_leBytes _ _ hb] at this
theorem num6_unique {a b : Int} {x y : List UInt8} (ha : 0 ≤ a) (ha2 : a ≤ top) (hb : 0 ≤ b) (hb2 : b ≤ top) (h : num6 a ++ x = num6 b ++ y) : a = b ∧ x = y := by
  unfold top at ha2 hb2
  obtain ⟨h1, h2⟩ := leBytes_unique (k := 6) (by rw [show (256 : Nat) ^ 6 = 281474976710656 from rfl]; omega) (by rw [show (256 : Nat) ^ 6 = 281474976710656 from rfl]; omega) h
  exact ⟨by omega, h2⟩
theorem risesB_head {p : ByteArray × ByteArray} {l : List (ByteArray × ByteArray)} (h : risesB (p :: l) = true) : keyB p.1 = true ∧ valB p.2 = true ∧ risesB l = true := by
  cases l with
  | nil => simp [risesB] at h; exact ⟨h.1, h.2, rfl⟩
  | cons q l => simp [risesB] at h; exact ⟨h.1.1.1, h.1.1.2, h.2⟩
theorem keyB_size {s : ByteArray} (h : keyB s = true) : 1 ≤ s.size ∧ s.size ≤ 16 := by simpa [keyB] using h
theorem valB_size {s : ByteArray} (h : valB s = true) : s.size ≤ 32 := by simpa [valB] using h
theorem pairsL_unique : ∀ {l m : List (ByteArray × ByteArray)} {x y : List UInt8}, risesB l = true → risesB m = true → l.length = m.length → pairsL l ++ x = pairsL m ++ y → l = m ∧ x = y
  | [], [], _, _, _, _, _, h => ⟨rfl, h⟩
  | [], _ :: _, _, _, _, _, h, _ => by simp at h
  | _ :: _, [], _, _, _, _, h, _ => by simp at h
  | (a, b) :: l, (c, d) :: m, x, y, hl, hm, hn, h => by
    obtain ⟨k1, v1, r1⟩ := risesB_head hl
    obtain ⟨k2, v2, r2⟩ := risesB_head hm
    have s1 := keyB_size k1; have s2 := keyB_size k2; have s3 := valB_size v1; have s4 := valB_size v2
    dsimp only at s1 s2 s3 s4
    simp only [pairsL, List.flatMap_cons, pairL, List.append_assoc] at h
    obtain ⟨e1, h1⟩ := txtL_unique (by omega) (by omega) h
    obtain ⟨e2, h2⟩ := txtL_unique (by omega) (by omega) h1
    obtain ⟨e3, h3⟩ := pairsL_unique r1 r2 (by simpa using hn) h2
    exact ⟨by rw [e1, e2, e3], h3⟩
theorem rowB_parts {l : List (ByteArray × ByteArray)} (h : rowB l = true) : l.length ≤ 4000 ∧ risesB l = true := by simpa [rowB] using h
/-- whatever stands behind: a record's bytes tell it -/
theorem enc_unique {r s : RecP} {x y : List UInt8} (hr : RightP r) (hs : RightP s) (h : encL r ++ x = encL s ++ y) : r = s ∧ x = y := by
  obtain ⟨k, t, ke, va, pa, un, nu, pr⟩ := r
  obtain ⟨k', t', ke', va', pa', un', nu', pr'⟩ := s
  obtain ⟨a1, a2, a3, a4, a5, a6⟩ := hr
  obtain ⟨b1, b2, b3, b4, b5, b6⟩ := hs
  dsimp only at a1 a2 a3 a4 a5 a6 b1 b2 b3 b4 b5 b6
  unfold encL at h
  dsimp only at h
  rw [List.cons_append, List.cons_append] at h
  injection h with h1 h2
  have ek : k = k' := by have := toUInt8_inj (by omega) (by omega) h1; omega
  subst ek
  clear h1
  by_cases h5 : k ≤ 5
  · simp only [if_pos h5] at a3 b3 h2
    obtain ⟨t1, t2, rfl, rfl, rfl⟩ := a3
    obtain ⟨t3, t4, rfl, rfl, rfl⟩ := b3
    have h7 : ¬ k = 7 := by omega
    simp only [if_neg h7] at a6 b6 h2
    subst a6 b6
    simp only [List.append_assoc, List.append_nil] at h2
    obtain ⟨e1, h3⟩ := num6_unique (by omega) t2 (by omega) t4 h2
    subst e1
    by_cases h23 : k = 2 ∨ k = 3
    · simp only [if_pos h23] at a4 b4 h3
      have z1 := keyB_size a4; have z2 := keyB_size b4
      obtain ⟨e2, h4⟩ := txtL_unique (by omega) (by omega) h3
      subst e2
      by_cases h22 : k = 2
      · simp only [if_pos h22] at a5 b5 h4
        have z3 := valB_size a5; have z4 := valB_size b5
        obtain ⟨e3, h5⟩ := txtL_unique (by omega) (by omega) h4
        exact ⟨by rw [e3], h5⟩
      · simp only [if_neg h22] at a5 b5 h4
        exact ⟨by rw [a5, b5], by simpa using h4⟩
    · have h22 : ¬ k = 2 := fun e => h23 (.inl e)
      simp only [if_neg h23, if_neg h22] at a4 b4 a5 b5 h3
      exact ⟨by rw [a4, b4, a5, b5], by simpa using h3⟩
  · simp only [if_neg h5] at a3 b3 h2
    obtain ⟨rfl, p1, p2, p3, p4, p5, p6⟩ := a3
    obtain ⟨rfl, q1, q2, q3, q4, q5, q6⟩ := b3
    have h23 : ¬ (k = 2 ∨ k = 3) := by omega
    have h22 : ¬ k = 2 := by omega
    simp only [if_neg h23, if_neg h22] at a4 b4 a5 b5 h2
    simp only [List.append_assoc, List.nil_append] at h2
    obtain ⟨e1, h3⟩ := num6_unique (by omega) (by unfold top; omega) (by omega) (by unfold top; omega) h2
    obtain ⟨e2, h4⟩ := num6_unique p3 p4 q3 q4 h3
    obtain ⟨e3, h6⟩ := num6_unique p5 p6 q5 q6 h4
    subst e1 e2 e3
    by_cases h7 : k = 7
    · simp only [if_pos h7] at a6 b6 h6
      obtain ⟨l1, l2⟩ := rowB_parts a6
      obtain ⟨m1, m2⟩ := rowB_parts b6
      simp only [List.append_assoc] at h6
      obtain ⟨e4, h8⟩ := leBytes_unique (k := 2) (by rw [show (256 : Nat) ^ 2 = 65536 from rfl]; omega) (by rw [show (256 : Nat) ^ 2 = 65536 from rfl]; omega) h6
      obtain ⟨e5, h9⟩ := pairsL_unique l2 m2 e4 h8
      exact ⟨by rw [a4, b4, a5, b5, e5], h9⟩
    · simp only [if_neg h7] at a6 b6 h6
      exact ⟨by rw [a4, b4, a5, b5, a6, b6], by simpa using h6⟩
theorem enc_inj {r s : RecP} (hr : RightP r) (hs : RightP s) (h : encL r = encL s) : r = s :=
  (enc_unique (x := []) (y := []) hr hs (by rw [h])).1
end Go.Proofs.Ytajbnfobmnibjaa
