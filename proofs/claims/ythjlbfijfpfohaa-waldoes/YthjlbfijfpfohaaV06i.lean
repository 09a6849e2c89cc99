/-
  The document's log: the contract of Append.
-/
import Derived.Test.YthjlbfijfpfohaaV06h
import Derived.Deep.AppendLies
namespace Go.Proofs.Ythjlbfijfpfohaa
open Go.RowKit Go.ChangeMaps
section
variable {P : Program}
/-- append(T{}, u...) in a region that draws its order: u some texts that lie anywhere -/
theorem step_copyStrs {ops : Array Oper} {oo : Oper} {a : Act} {K : Act → World → Prop} {Q : Exit → Act → World → Prop} {E : Prop} {W : World} {T : List ByteArray} {e : TypeId} {m c g bytes : Nat} {b : Option Addr} {ti : TypeInfo} {z : Value} (hgd : oo.guard = none) (sl x : Operand) (t : TypeId)
    (ho : oo.op = .call { callee := .builtin .append, args := #[sl, x], argTypes := #[t, t] }) (hs : a.eval sl = .slice (some ⟨g, 0, none⟩) 0 0) (hx : a.eval x = .slice b m c)
    (hg : W.heap[g]? = some (.cells #[] e (0, 0))) (hu : Strs W b T) (hm : T.length = m) (hb : b = none → m = 0 ∧ c = 0)
    (ht : P.underlying t = some (.slice e)) (hi : P.info? e = some ti) (hz : ti.zero = some z) (hsize : ti.size = 1) (hby : ti.bytes = bytes) (hzs : z.cells.size = 1) (h63 : m ≤ maxLen) (hbytes : m * bytes ≤ 140737488355328)
    (h : ∀ b' c' W', W'.ownsRow 0 e 1 (.slice b' m c') m (T.map Value.string) → W.grownBy W' (some g) → (∀ k, (Value.slice b' m c').ownBlock = some k → k = g ∨ k = W.heap.size) → K (a.put oo.dst (.slice b' m c')) W') :
    if Region.wanted oo (yielded ops a.tmps) = true then Oper.wp P oo a W K Q else E := by
  have hr : Row W (fun _ => 0) 0 e 1 (.slice (some ⟨g, 0, none⟩) 0 0) 0 [] := ⟨⟨by simp, .inr ⟨g, 0, #[], rfl, Nat.zero_le _, hg, Nat.le_refl _, by decide, by simp, by simp⟩⟩, fun _ _ => rfl⟩
  have key : ∃ v' W', (Builtin.append_ #[t, t] oo.type #[.slice (some ⟨g, 0, none⟩) 0 0, .slice b m c]).run P W = .ok v' W' ∧ W'.ownsRow 0 e 1 v' m (T.map Value.string) ∧ W.grownBy W' (some g) ∧ (v'.ownBlock = some g ∨ v'.ownBlock = some W.heap.size) := by
    cases b with
    | none =>
      obtain ⟨rfl, rfl⟩ := hb rfl
      obtain rfl : T = [] := List.eq_nil_of_length_eq_zero hm
      have := run_append_owned_none (P := P) (w := W) 0 t oo.type e ti 1 ht hi _ 0 [] hr.row
      exact ⟨_, W, this, hr.row, ⟨rfl, rfl, rfl, Nat.le_refl _, fun _ _ _ => rfl⟩, .inl rfl⟩
    | some ad =>
      obtain ⟨v', W', hap, hR, _, hG, hL⟩ := hr.append (ty := oo.type) ht hi hz hsize hby hzs (by decide) ad m c (T.map Value.string) (by rw [List.length_map, hm, Nat.mul_one]) (by
        intro j u hj
        rw [List.getElem?_map] at hj
        cases hTj : T[j]? with
        | none => rw [hTj] at hj; cases hj
        | some s =>
          rw [hTj] at hj
          simp only [Option.map_some, Option.some.injEq] at hj
          subst hj
          obtain ⟨b, off, e1, e2⟩ := hu j s hTj
          cases e1
          rw [show Addr.add ⟨b, off, none⟩ j = ⟨b, off + j, none⟩ from by unfold Addr.add; split <;> simp_all]
          exact e2) (strs_one T) (by omega) (by rw [Nat.zero_add]; exact hbytes)
      rw [Nat.zero_add, List.nil_append] at hR
      exact ⟨v', W', hap, hR.row, hG, hL⟩
  obtain ⟨v', W', hap, hR, hG, hL⟩ := key
  obtain ⟨b', c', rfl⟩ : ∃ b' c', v' = .slice b' m c' := by
    rcases (show Row W' (fun _ => 0) 0 e 1 v' m (T.map Value.string) from ⟨hR, fun _ _ => rfl⟩).val with ⟨rfl, h, _⟩ | ⟨g, C, rfl, _⟩
    · exact ⟨none, 0, by rw [h]⟩
    · exact ⟨_, _, rfl⟩
  refine step_append_run hgd sl x t t ho _ _ hs hx _ _ hap (h b' c' W' hR hG (fun k hk => ?_))
  rcases hL with h | h
  · rw [h] at hk; cases hk; exact .inl rfl
  · rw [h] at hk; cases hk; exact .inr rfl
end
section
variable {w w' : World} {o o' : Nat → Nat} {i j g q p m : Nat} {S : List ByteArray} {Ws : Wrs} {L : LogP}
/-- v[k:] of a row of strings: nil only where the row is -/
theorem RowS.from2 {v : Value} {R : List ByteArray} (h : RowS w o j v R) (k : Nat) (hk : k ≤ R.length) : ∃ a C, (∀ W, (Instr.slice 49 v (some (.int .i64 (k : Int))) none none).run Try.prog W = .ok (.slice a (R.drop k).length C) W) ∧ Strs w a (R.drop k) ∧ (a = none → (R.drop k).length = 0 ∧ C = 0) := by
  rcases h.val with ⟨rfl, e, h2⟩ | ⟨b, C, rfl, _, _, hc, _⟩
  · have e3 : R = [] := List.eq_nil_of_length_eq_zero e
    subst e3
    obtain rfl : k = 0 := by simpa using hk
    exact ⟨none, 0, fun W => by simp [go_sem, Instr.slice], fun i s hs => by simp at hs, fun _ => ⟨rfl, rfl⟩⟩
  · refine ⟨if C = k then some ⟨b, 0, none⟩ else some ⟨b, k, none⟩, C - k, fun W => ?_, fun i s hs => ?_, fun e => ?_⟩
    · have h1 : (k : Int) ≤ (R.length : Int) := by omega
      have h0 : (0 : Int) ≤ (k : Int) := by omega
      have hadd : Addr.add ⟨b, 0, none⟩ k = ⟨b, k, none⟩ := add_zero' b k
      simp [go_sem, Instr.slice, hk]
      done
    · have hi : i < R.length - k := by
        have := (List.getElem?_eq_some_iff.1 hs).1
        rwa [List.length_drop] at this
      rw [List.getElem?_drop] at hs
      have hcap : R.length ≤ C := by
        rcases h.row.2 with ⟨e, _⟩ | ⟨g', cap, cur, e, _, _, h3, _⟩
        · cases e
        · cases e; exact h3
      rw [if_neg (by omega)]
      exact ⟨b, k, rfl, hc (k + i) _ (by rw [List.getElem?_map, hs]; rfl)⟩
    · split at e <;> cases e
set_option maxRecDepth 100000 in
theorem vappend_arg (s : ByteArray) (h : s.size < 1 ∨ 100000 < s.size) : Calls Try.prog 11 #[.pointer (some ⟨g, 0, none⟩), .string s] w fun e w' => e = .returned (.tuple #[.int .i64 0, .int .i64 1]) ∧ w = w' := by
  rcases h with h | h
  · have f1 : (s.size : Int) < 1 := by omega
    clear h
    go_enter Try.func11, Try.ntmps11
    go_wp2_with fail
    go_ret2
    exact ⟨rfl, rfl⟩
  · have f1 : ¬ (s.size : Int) < 1 := by omega
    have f2 : (100000 : Int) < (s.size : Int) := by omega
    clear h
    go_enter Try.func11, Try.ntmps11
    go_wp2_with fail
    go_ret2
    exact ⟨rfl, rfl⟩
set_option maxRecDepth 100000 in
theorem vappend_some (H : IsV w o j g p L) (s t : ByteArray) (h1 : 1 ≤ s.size) (h2 : s.size ≤ 100000) (ht : L.tu = some t) (hz : 1 ≤ t.size) : Calls Try.prog 11 #[.pointer (some ⟨g, 0, none⟩), .string s] w fun e w' => e = .returned (.tuple #[.int .i64 0, .int .i64 9]) ∧ w = w' := by
  obtain ⟨v, H⟩ := H
  have A0 := H.at'
  rw [ht] at A0
  have c7 : w.cell? ⟨g, 7, none⟩ = some (.string t) := A0.cell 7
  obtain ⟨t1, t2, t3, t4, t5⟩ := some_text6 t hz
  have f1 : ¬ (s.size : Int) < 1 := by omega
  have f2 : ¬ (100000 : Int) < (s.size : Int) := by omega
  clear H ht A0 hz h1 h2
  go_enter Try.func11, Try.ntmps11
  go_wp2_with fail
  go_ret2
  exact ⟨rfl, rfl⟩
end
end Go.Proofs.Ythjlbfijfpfohaa
