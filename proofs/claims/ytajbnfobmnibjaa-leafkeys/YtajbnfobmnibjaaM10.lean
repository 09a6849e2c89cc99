/-
  Rows of pairs as cells; copy of pairs; make of pairs.
-/
import Derived.Test.YtajbnfobmnibjaaD10c
import Derived.Laws.CopyRow
import Derived.Laws.MakeOwn
namespace Go.Proofs.Ytajbnfobmnibjaa
open Go.RowKit

def pc10 : Prs → List Value
  | [] => []
  | p :: l => .string p.1 :: .string p.2 :: pc10 l
theorem pc10_len : ∀ l : Prs, (pc10 l).length = l.length * 2
  | [] => rfl
  | p :: l => by simp [pc10, pc10_len l]; omega
theorem pc10_app : ∀ a b : Prs, pc10 (a ++ b) = pc10 a ++ pc10 b
  | [], _ => rfl
  | p :: a, b => by simp [pc10, pc10_app a b]
theorem pc10_take : ∀ (l : Prs) (k : Nat), (pc10 l).take (k * 2) = pc10 (l.take k)
  | [], k => by simp [pc10]
  | p :: l, 0 => by simp [pc10]
  | p :: l, k + 1 => by
    rw [show (k + 1) * 2 = k * 2 + 1 + 1 by omega]
    simp only [pc10, List.take_succ_cons, pc10_take l k]
theorem pc10_drop : ∀ (l : Prs) (k : Nat), (pc10 l).drop (k * 2) = pc10 (l.drop k)
  | [], k => by simp [pc10]
  | p :: l, 0 => by simp [pc10]
  | p :: l, k + 1 => by
    rw [show (k + 1) * 2 = k * 2 + 1 + 1 by omega]
    simp only [pc10, List.drop_succ_cons, pc10_drop l k]
theorem pc10_at : ∀ {l : Prs} {k : Nat} {p : ByteArray × ByteArray}, l[k]? = some p → (pc10 l)[k * 2]? = some (.string p.1) ∧ (pc10 l)[k * 2 + 1]? = some (.string p.2)
  | [], k, p, h => by simp at h
  | q :: l, 0, p, h => by simp at h; subst h; simp [pc10]
  | q :: l, k + 1, p, h => by
    have ih := pc10_at (l := l) (k := k) (p := p) (by simpa using h)
    rw [show (k + 1) * 2 = k * 2 + 1 + 1 by omega]
    simpa [pc10] using ih
theorem pc10_one (l : Prs) : ∀ v ∈ pc10 l, v.oneCell' = true := by
  induction l with
  | nil => intro v hv; cases hv
  | cons p l ih =>
    intro v hv
    simp only [pc10, List.mem_cons] at hv
    rcases hv with rfl | rfl | hv
    · rfl
    · rfl
    · exact ih v hv
/-- only block m has changed -/
structure Only10 (m : Nat) (w w' : World) : Prop where
  os : w'.os = w.os
  tape : w'.tape = w.tape
  output : w'.output = w.output
  size : w'.heap.size = w.heap.size
  blk : ∀ k, k ≠ m → w'.heap[k]? = w.heap[k]?
theorem Only10.below {w0 w w' : World} {m n : Nat} (h : Only10 m w w') (b : Below n w0 w) (hm : n ≤ m) : Below n w0 w' :=
  ⟨h.os.trans b.os, h.tape.trans b.tape, h.output.trans b.output, by rw [h.size]; exact b.size, fun k hk => (h.blk k (by omega)).trans (b.block k hk)⟩
theorem Only10.trans {w w1 w2 : World} {m : Nat} (h : Only10 m w w1) (h' : Only10 m w1 w2) : Only10 m w w2 :=
  ⟨h'.os.trans h.os, h'.tape.trans h.tape, h'.output.trans h.output, h'.size.trans h.size, fun k hk => (h'.blk k hk).trans (h.blk k hk)⟩
theorem Only10.pairs {w w' : World} {m : Nat} {a : Option Addr} {Y : Prs} (h : Only10 m w w') (hY : PairsAt w a Y) (hne : ∀ x, a = some x → x.block ≠ m) : PairsAt w' a Y := by
  intro i p hp
  obtain ⟨b, off, e, c0, c1⟩ := hY i p hp
  have hb := hne _ e
  have key : ∀ j v, w.cell? ⟨b, j, none⟩ = some v → w'.cell? ⟨b, j, none⟩ = some v := fun j v hc => by
    have := h.blk b hb
    simp only [World.cell?, this] at hc ⊢
    exact hc
  exact ⟨b, off, e, key _ _ c0, key _ _ c1⟩
theorem only_setRow {w : World} {g : Nat} {old cs : Array Value} {t : TypeId} (_hg : w.heap[g]? = some (.cells old t (0, 0))) : Only10 g w (w.setRow g cs) :=
  ⟨rfl, rfl, rfl, by simp [World.setRow], fun k hk => by simp [World.setRow, Array.getElem?_modify, Ne.symm hk]⟩
/-- a block that is a row of pairs -/
def PB (w : World) (B : Nat) (X : Prs) : Prop := At w B (pc10 X).toArray 44
theorem PB.pairs {w : World} {B : Nat} {X : Prs} (h : PB w B X) : PairsAt w (some ⟨B, 0, none⟩) X := by
  intro i p hp
  obtain ⟨h1, h2⟩ := pc10_at hp
  refine ⟨B, 0, rfl, ?_, ?_⟩
  · rw [Nat.zero_add, h.cell (i * 2), List.getElem?_toArray]; exact h1
  · rw [Nat.zero_add, h.cell (i * 2 + 1), List.getElem?_toArray]; exact h2
section
variable {P : Program}
theorem run_copy_two (w : World) (dT sT ty elem : TypeId) (g o dLen dCap : Nat) (a : Addr) (sLen sCap : Nat) (cur : Array Value) (t : TypeId) (cs : List Value)
    (hu : P.underlying dT = some (.slice elem)) (hs : (P.info? elem).map (·.size) = some 2)
    (hg : w.heap[g]? = some (.cells cur t (0, 0))) (hn : cs.length = Nat.min sLen dLen * 2)
    (hsrc : ∀ j v, cs[j]? = some v → w.cell? (a.add j) = some v) (hfit : o + cs.length ≤ cur.size) (h1 : ∀ v ∈ cs, v.oneCell' = true) :
    (Builtin.copy_ #[dT, sT] ty #[.slice (some ⟨g, o, none⟩) dLen dCap, .slice (some a) sLen sCap]).run P w =
      .ok (goInt (Nat.min sLen dLen)) (w.setRow g (cur.toList.take o ++ cs ++ cur.toList.drop (o + cs.length)).toArray) := by
  have hl := run_loadCells_list (P := P) w a cs hsrc
  have hst := run_storeCells_at P g o t cs 0 cur w hg (by simpa using hfit) h1
  cases hq : P.info? elem with
  | none => simp [hq] at hs
  | some i =>
    have hi : i.size = 2 := by simpa [hq] using hs
    simp [Builtin.copy_, run_underlying hu, Builtin.lenOf, Builtin.firstCells, sizeOf, typeInfo, hq, hi, ← hn, hl, hst]
end
theorem info_pair10 : (Try.prog.info? 44).map (fun i => (i.zero, i.size, i.bytes)) = some (some (.agg #[.string ⟨#[]⟩, .string ⟨#[]⟩]), 2, 32) := by kernel_rfl
theorem size_pair10 : (Try.prog.info? 44).map (·.size) = some 2 := by kernel_rfl
theorem rep_pc10 : ∀ n : Nat, pc10 (List.replicate n (noB, noB)) = List.replicate (n * 2) (Value.string ⟨#[]⟩)
  | 0 => rfl
  | n + 1 => by
    rw [show (n + 1) * 2 = n * 2 + 1 + 1 by omega, List.replicate_succ, List.replicate_succ, List.replicate_succ, ← rep_pc10 n]; rfl
theorem made_pc10 (n : Nat) : madeCells (Value.agg #[.string ⟨#[]⟩, .string ⟨#[]⟩]).cells (n * 2) = (pc10 (List.replicate n (noB, noB))).toArray := by
  rw [rep_pc10]
  apply Array.ext
  · simp [madeCells]
  · intro i h1 h2
    have e : (Value.agg #[.string ⟨#[]⟩, .string ⟨#[]⟩]).cells = #[.string ⟨#[]⟩, .string ⟨#[]⟩] := rfl
    simp only [madeCells, e, Array.getElem_map, Array.getElem_range, List.getElem_toArray, List.getElem_replicate]
    have : i % 2 = 0 ∨ i % 2 = 1 := by omega
    have e2 : (#[Value.string ⟨#[]⟩, Value.string ⟨#[]⟩] : Array Value).size = 2 := rfl
    rw [e2]
    rcases this with h | h <;> rw [h] <;> rfl
theorem mk_pairs10 (W : World) (n : Nat) (hn : n ≤ 1000000) : (Instr.makeSlice 22 (.int .i64 (n : Int)) (.int .i64 (n : Int))).run Try.prog W = .ok (.slice (some ⟨W.heap.size, 0, none⟩) n n) (W.alloc (.cells (pc10 (List.replicate n (noB, noB))).toArray 44)) := by
  obtain ⟨i0, hi, hz0, hz1, hz2⟩ := info_parts info_pair10
  have h := run_make (P := Try.prog) W 22 44 i0 (.agg #[.string ⟨#[]⟩, .string ⟨#[]⟩]) Try.underlying22 hi hz0 .i64 .i64 (n : Int) (n : Int) (by omega) (by omega) (by rw [hz2]; omega) (by omega)
  rw [hz1, Int.toNat_natCast, made_pc10] at h
  exact h
/-- pairs copied into a row of pairs, o pairs behind its start -/
theorem run_copy_pairs (w : World) (ty : TypeId) (B o dLen dCap : Nat) (a : Option Addr) (sCap : Nat) (X Y : Prs) (hB : PB w B X) (hY : PairsAt w a Y) (hle : Y.length ≤ dLen) (hfit : o + Y.length ≤ X.length) :
    ∃ w', (Builtin.copy_ #[22, 22] ty #[.slice (some ⟨B, o * 2, none⟩) dLen dCap, .slice a Y.length sCap]).run Try.prog w = .ok (.int .i64 (Y.length : Int)) w' ∧ PB w' B (X.take o ++ Y ++ X.drop (o + Y.length)) ∧ Only10 B w w' := by
  have fin : (pc10 X).toArray.toList.take (o * 2) ++ pc10 Y ++ (pc10 X).toArray.toList.drop (o * 2 + (pc10 Y).length) = pc10 (X.take o ++ Y ++ X.drop (o + Y.length)) := by
    rw [pc10_app, pc10_app, ← pc10_take, ← pc10_drop, pc10_len, show (o + Y.length) * 2 = o * 2 + Y.length * 2 by omega]
  have hsz : o * 2 + (pc10 Y).length ≤ (pc10 X).toArray.size := by rw [List.size_toArray, pc10_len, pc10_len]; omega
  cases a with
  | none =>
    have hYe : Y = [] := by
      cases Y with
      | nil => rfl
      | cons p l => obtain ⟨g, off, e, _, _⟩ := hY 0 p rfl; cases e
    subst hYe
    refine ⟨w, ?_, by simpa using hB, rfl, rfl, rfl, rfl, fun _ _ => rfl⟩
    obtain ⟨i0, hi, hz0, hz1, hz2⟩ := info_parts info_pair10
    simp [Builtin.copy_, run_underlying Try.underlying22, Builtin.lenOf, Builtin.firstCells, sizeOf, typeInfo, hi, storeCells, goInt]
  | some x =>
    have hsrc : ∀ j v, (pc10 Y)[j]? = some v → w.cell? (x.add j) = some v := fun j v hj => by
      have hlt := (List.getElem?_eq_some_iff.1 hj).1
      rw [pc10_len] at hlt
      obtain ⟨q, hq⟩ : ∃ q, Y[j / 2]? = some q := ⟨_, List.getElem?_eq_getElem (by omega)⟩
      obtain ⟨g, off, e, c0, c1⟩ := hY (j / 2) q hq
      cases e
      have ea : Addr.add ⟨g, off, none⟩ j = ⟨g, off + j, none⟩ := by unfold Addr.add; split <;> simp_all
      rw [ea]
      obtain ⟨e0, e1⟩ := pc10_at hq
      have : j = j / 2 * 2 ∨ j = j / 2 * 2 + 1 := by omega
      rcases this with h | h
      · rw [h] at hj ⊢
        rw [e0] at hj
        rw [← hj]; exact c0
      · rw [h] at hj ⊢
        rw [e1] at hj
        rw [← hj, ← Nat.add_assoc]; exact c1
    have hm : Nat.min Y.length dLen = Y.length := Nat.min_eq_left hle
    have hn : (pc10 Y).length = Nat.min Y.length dLen * 2 := by rw [pc10_len, hm]
    have := run_copy_two (P := Try.prog) w 22 22 ty 44 B (o * 2) dLen dCap x Y.length sCap (pc10 X).toArray 44 (pc10 Y) Try.underlying22 size_pair10 hB hn hsrc hsz (pc10_one Y)
    rw [fin, hm] at this
    refine ⟨_, this, ?_, only_setRow hB⟩
    exact setRow_heap w B _ _ _ _ hB
end Go.Proofs.Ytajbnfobmnibjaa
