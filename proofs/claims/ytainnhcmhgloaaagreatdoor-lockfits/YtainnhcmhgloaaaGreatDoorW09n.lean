/-
  Package lock: Free.
-/
import Derived.Test.YtainnhcmhgloaaaGreatDoorW09m
import Derived.Test.YtainnhcmhgloaaaGreatDoorW09e
namespace Go.Proofs.YtainnhcmhgloaaaGreatDoor
open Go.RowKit Go.Shelf Go.MapKept Go.Maps Go.Sort

/-- what Free tells, and who has what and waits for what behind it -/
inductive FreeS (H W : Hs) (x : Int) (nm : ByteArray) : Nat → Hs → Hs → List Int → Prop
  | none (h : modeP H x nm = 0) : FreeS H W x nm 7 H W []
  | state (h : modeP H x nm ≠ 0) (y : Has9) (hy : y ∈ W) (e : y.owner = x) (hn : y.name = nm) : FreeS H W x nm 9 H W []
  | ok (h : modeP H x nm ≠ 0) (no : ∀ y ∈ W, y.owner = x → y.name ≠ nm) :
      FreeS H W x nm 0 (comeP nm (nameL W nm).length (woN H x nm) W).1 (comeP nm (nameL W nm).length (woN H x nm) W).2.1 (comeP nm (nameL W nm).length (woN H x nm) W).2.2
theorem toList_beq9 (a b : ByteArray) : (a.toList == b.toList) = decide (a = b) := by
  by_cases h : a = b
  · subst h; simp
  · rw [decide_eq_false h]
    refine beq_eq_false_iff_ne.2 (fun e => h ?_)
    have h1 := congrArg (fun l => (⟨l.toArray⟩ : ByteArray)) e
    exact ByteArray.ext (by simpa [ByteArray.toList_eq] using h1)
section
variable {w w' : World} {o o' : Nat → Nat} {i j g m1 m2 m3 : Nat} {N N1 N2 : List En} {HL : List Ho} {WL H W : Hs} {n0 : ByteArray} {e : En}
/-- what an owner holds of a name, looked up -/
theorem own_look (T : IsT w o j g m1 m2 m3 N HL WL) (A : Abs N HL WL H W n0 []) (x : Int) (nm : ByteArray) : ∃ v : Option Nat, (Instr.lookup 51 (.map (some m2)) (.int .i64 x) false).run Tryz.prog w = .ok (.map v) w ∧
    ((modeP H x nm = 0 ∧ (Instr.lookup 50 (.map v) (.string nm) true).run Tryz.prog w = .ok (.tuple #[.pointer none, .bool false]) w) ∨
     (modeP H x nm ≠ 0 ∧ ∃ e ∈ N, e.name = nm ∧ (Instr.lookup 50 (.map v) (.string nm) true).run Tryz.prog w = .ok (.tuple #[ptr9 e.b, .bool true]) w)) := by
  rcases own_cases HL x with hno | ⟨h, hh, rfl⟩
  · refine ⟨none, T.hh.lookNo Tryz.underlying51 Tryz.underlying3 (show IsKey (.int .i64) (.int .i64 x) from rfl) (fun y hy e => by obtain ⟨p, hp, rfl⟩ := List.mem_map.1 hy; exact hno p hp (by simpa [hkv] using e)) (Tryz.zeroValue50 w) false, .inl ⟨modeP_none (fun y hy ⟨h1, _⟩ => ?_), ?_⟩⟩
    · obtain ⟨h', a, b⟩ := A.ox y hy
      exact hno h' a (b.trans h1)
    · exact look_nil Tryz.underlying50 Tryz.underlying9 (show IsKey .string (.string nm) from trivial) (Tryz.zeroValue62 w) true
  · refine ⟨some h.b, T.hh.look Tryz.underlying51 Tryz.underlying3 (List.mem_map.2 ⟨h, hh, rfl⟩) false, ?_⟩
    by_cases hp : ∃ p ∈ h.ns, p.1 = nm
    · obtain ⟨p, hp, rfl⟩ := hp
      obtain ⟨e, he, h1, h2⟩ := A.ob h hh p hp
      obtain ⟨y, hy, hyn⟩ := List.mem_map.1 ((A.om h hh).mem_iff.1 (List.mem_map.2 ⟨p, hp, rfl⟩))
      obtain ⟨hy1, hy2⟩ := mem_ownL.1 hy
      refine .inr ⟨?_, e, he, h1, ?_⟩
      · have := modeP_mem A.ok.hn hy1
        rw [hy2, hyn] at this
        rw [this]
        have := (A.ok.hm y hy1).1
        omega
      · have := (T.ho h hh).look Tryz.underlying50 Tryz.underlying9 (List.mem_map.2 ⟨p, hp, rfl⟩) true
        rw [h2]; exact this
    · refine .inl ⟨modeP_none (fun y hy ⟨h1, h2⟩ => hp ?_), ?_⟩
      · obtain ⟨p, hp1, hp2⟩ := List.mem_map.1 ((A.om h hh).mem_iff.2 (List.mem_map.2 ⟨y, mem_ownL.2 ⟨hy, h1⟩, rfl⟩))
        exact ⟨p, hp1, hp2.trans h2⟩
      · exact (T.ho h hh).lookNo Tryz.underlying50 Tryz.underlying9 (show IsKey .string (.string nm) from trivial) (fun y hy e => by obtain ⟨p, hp1, rfl⟩ := List.mem_map.1 hy; exact hp ⟨p, hp1, by simpa [nskv] using e⟩) (Tryz.zeroValue62 w) true
set_option maxRecDepth 100000 in
set_option maxHeartbeats 1000000 in
theorem c_Free0 (h : T9 w o j g H W) (hL : Laid9 w) (h0 : o 0 ≠ j) (hB : H.length + W.length ≤ 800) (hij : i ≠ j) (hf : ∀ k, o k ≠ i) (x : Int) (nm : ByteArray) (hnm : nm.size ≤ 300) :
    Calls Tryz.prog 22 #[ptr9 g, .int .i64 x, .string nm] w fun r w' => ∃ (v : Value) (k : Nat), r = .returned (.tuple #[v, .int .i64 (k : Int)]) ∧ ∃ H' W' l o', FreeS H W x nm k H' W' l ∧ T9 w' o' j g H' W' ∧ Stp o j w o' w' ∧ Row w' o' i 3 1 v l.length (l.map encI9) := by
  obtain ⟨m1, m2, m3, N, HL, WL, T, A⟩ := h.ex
  obtain ⟨v, lk1, hv⟩ := own_look T A x nm
  have g1 : w.cell? ⟨g, 1, none⟩ = some (.map (some m2)) := T.hp.cell 1
  have g2 : w.cell? ⟨g, 2, none⟩ = some (.map (some m3)) := T.hp.cell 2
  rcases hv with ⟨hm, lk2⟩ | ⟨hm, e, he, rfl, lk2⟩
  · have HE := Lib.hid (show FreeS H W x nm 7 H W [] ∧ T9 w o j g H W from ⟨.none hm, h⟩)
    clear T A h hm hL hB h0 hij hf
    unfold ptr9
    go_enter Tryz.func22, Tryz.ntmps22
    go_wp2_with fail
    go_ret2
    exact ⟨_, 7, rfl, _, _, [], o, HE.out.1, HE.out.2, Stp.refl o j w, Row.nil w o i _ 1⟩
  · have hfin : ∀ (w1 : World) (b : Below w.heap.size w w1), (∀ y ∈ W, y.owner = x → y.name ≠ e.name) → Calls Tryz.prog 59 #[ptr9 g, ptr9 e.b, .int .i64 x] w1 fun r w2 => r = .returned (.tuple #[]) ∧
        Calls Tryz.prog 60 #[ptr9 g, ptr9 e.b] w2 fun r w' => ∃ v, r = .returned v ∧ ∃ H' W' l o', FreeS H W x e.name 0 H' W' l ∧ T9 w' o' j g H' W' ∧ Stp o j w o' w' ∧ Row w' o' i 3 1 v l.length (l.map encI9) := fun w1 b hno => by
      obtain ⟨N1, N2, rfl⟩ := List.append_of_mem he
      refine (c_release (T.reads b) A x).mono ?_
      rintro r w2 ⟨rfl, HL2, T2, A2, S2⟩
      refine ⟨rfl, ?_⟩
      have S02 := (Stp.ofBelow b o j).trans S2
      have hwl : (woN H x e.name).length ≤ H.length := List.length_filter_le _ _
      have := c_letCome (i := i) T2 A2 (by omega) hnm (hL.stp S02 h0) h0 hij (fun k _ => hf k)
      refine this.mono ?_
      rintro r w3 ⟨v, rfl, N3, HL3, WL3, o3, T3, A3, S3, R3, _⟩
      have hq : ({ e with hs := e.hs.filter (fun p => decide (p.1 ≠ x)) } : En).q.length = (nameL W e.name).length := by
        show e.q.length = _
        rw [A.q_len (by simp), List.length_map]
      rw [hq] at A3 R3
      exact ⟨v, rfl, _, _, _, o3, .ok hm hno, ⟨⟨_, _, _, _, _, _, T3, A3⟩⟩, S02.trans S3, R3⟩
    have HF := Lib.hid hfin
    have hlt : ∀ q : Nat, True := fun _ => trivial
    rcases forP_cases W x with hno | ⟨y, hy, hyx⟩
    · have lk3 := T.lookNoWait x (fun y hy => hno y (A.wm.mem_iff.1 hy)) true
      simp only [if_true] at lk3
      have HG := Lib.hid (fun (w1 : World) (b : Below w.heap.size w w1) => HF.out w1 b (fun y hy e => absurd e (hno y hy)))
      clear T A h hm hL hB h0 hij hf hfin HF hno hlt he
      unfold ptr9 at *
      generalize e.name = en at *
      generalize e.b = eb at *
      go_enter Tryz.func22, Tryz.ntmps22
      go_wp2_with fail
      have hBB := (Below.refl w.heap.size w).alloc (Nat.le_refl _) (.cells #[.string ⟨#[]⟩, .int .i64 0] 41)
      refine (HG.out _ hBB).mono ?_; rintro r w2 ⟨rfl, CL⟩
      have HCL := Lib.hid CL
      clear CL
      go_wp2_with fail
      refine HCL.out.mono ?_; rintro r w3 ⟨v3, rfl, H', W', l, o', hF, T9', S9, R9⟩
      go_wp2_with fail
      go_ret2
      exact ⟨v3, 0, rfl, H', W', l, o', hF, T9', S9, R9⟩
    · have lk3 := T.lookWait (A.wm.mem_iff.2 hy) true
      simp only [if_true] at lk3
      rw [hyx] at lk3
      have tb := toList_beq9 y.name e.name
      have hBB := (Below.refl w.heap.size w).alloc (Nat.le_refl _) (.cells #[.string y.name, .int .i64 (y.mode : Int)] 41)
      by_cases hyn : y.name = e.name
      · rw [decide_eq_true hyn] at tb
        have HE := Lib.hid (show FreeS H W x e.name 9 H W [] ∧ T9 (w.alloc (.cells #[.string y.name, .int .i64 (y.mode : Int)] 41)) o j g H W ∧ Stp o j w o (w.alloc (.cells #[.string y.name, .int .i64 (y.mode : Int)] 41)) from ⟨.state hm y hy hyx hyn, h.reads hBB, Stp.ofBelow hBB o j⟩)
        clear T A h hm hL hB h0 hij hf hfin HF hlt he hyn hy hyx
        unfold ptr9 at *
        generalize e.name = en at *
        generalize e.b = eb at *
        generalize y.name = yn at *
        generalize ((y.mode : Nat) : Int) = ym at *
        go_enter Tryz.func22, Tryz.ntmps22
        go_wp2_with fail
        go_ret2
        exact ⟨_, 9, rfl, _, _, [], o, HE.out.1, HE.out.2.1, HE.out.2.2, Row.nil _ o i _ 1⟩
      · rw [decide_eq_false hyn] at tb
        have HG := Lib.hid (fun (w1 : World) (b : Below w.heap.size w w1) => HF.out w1 b (fun z hz e1 e2 => hyn (by
          have h1 := forP_mem A.ok hz
          have h2 := forP_mem A.ok hy
          rw [e1] at h1; rw [hyx, h1] at h2
          cases h2; exact e2)))
        have HB := Lib.hid hBB
        clear T A h hm hL hB h0 hij hf hfin HF hlt he hyn hy hyx hBB
        unfold ptr9 at *
        generalize e.name = en at *
        generalize e.b = eb at *
        generalize y.name = yn at *
        generalize ((y.mode : Nat) : Int) = ym at *
        go_enter Tryz.func22, Tryz.ntmps22
        go_wp2_with fail
        refine (HG.out _ HB.out).mono ?_; rintro r w2 ⟨rfl, CL⟩
        have HCL := Lib.hid CL
        clear CL
        go_wp2_with fail
        refine HCL.out.mono ?_; rintro r w3 ⟨v3, rfl, H', W', l, o', hF, T9', S9, R9⟩
        go_wp2_with fail
        go_ret2
        exact ⟨v3, 0, rfl, H', W', l, o', hF, T9', S9, R9⟩
theorem T9.lt (h : T9 w o j g H W) : g < w.heap.size := by
  obtain ⟨m1, m2, m3, N, HL, WL, T, A⟩ := h.ex
  exact T.hp.lt
theorem gives_all {n k : Nat} (hij : i ≠ j) (hf : ∀ k, k < n → o k ≠ i) : gives o n j k ≠ i := by
  by_cases h : k < n
  · rw [gives_old h]; exact hf k h
  · rw [gives_new (by omega)]; exact fun e => hij e.symm
theorem c_Free (h : T9 w o j g H W) (hL : Laid9 w) (h0 : o 0 ≠ j) (hB : H.length + W.length ≤ 800) (hij : i ≠ j) (hf : ∀ k, k < w.heap.size → o k ≠ i) (x : Int) (nm : ByteArray) (hnm : nm.size ≤ 300) :
    Calls Tryz.prog 22 #[ptr9 g, .int .i64 x, .string nm] w fun r w' => ∃ (v : Value) (k : Nat), r = .returned (.tuple #[v, .int .i64 (k : Int)]) ∧ ∃ H' W' l o', FreeS H W x nm k H' W' l ∧ T9 w' o' j g H' W' ∧ Stp o j w o' w' ∧ Row w' o' i 3 1 v l.length (l.map encI9) := by
  refine (c_Free0 (h.gives w.heap.size j (Nat.le_refl _)) hL (by rw [gives_old (by have := h.lt; omega)]; exact h0) hB hij (fun k => gives_all hij hf) x nm hnm).mono ?_
  rintro r w' ⟨v, k, rfl, H', W', l, o', a, b, c, d⟩
  exact ⟨v, k, rfl, H', W', l, o', a, b, ((Stp.refl o j w).gives _ (Nat.le_refl _)).trans c, d⟩
end
end Go.Proofs.YtainnhcmhgloaaaGreatDoor
