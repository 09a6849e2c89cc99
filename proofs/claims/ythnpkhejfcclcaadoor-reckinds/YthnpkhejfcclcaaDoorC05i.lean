/-
  The document's answer for layer 5 (budwoodref05): the contract of guess.
-/
import Derived.Test.YthnpkhejfcclcaaDoorC05h
import Derived.Laws.AppendOwn
import Derived.OwnWalk
namespace Go.Proofs.YthnpkhejfcclcaaDoor
open Go.RowKit

/-- a record that is answered -/
def RecOut (w : World) (r : RecP) (e : Ending) (w' : World) : Prop := ∃ a C, e = .returned (recV r a C) ∧ PairsAt w' a r.pairs ∧ Below w.heap.size w w' ∧ ∀ x, a = some x → w.heap.size ≤ x.block
abbrev RT : TypeId := 28
set_option maxRecDepth 100000 in
set_option maxHeartbeats 2000000 in
theorem rguess_low (s : ByteArray) (w : World) (hs : s.size ≤ 1000000) (hk : numAt s 0 1 ≤ 5) :
    Calls Tryd.prog 43 #[.string s] w (RecOut w (guessP s)) := by
  have hg : guessP s = ⟨numAt s 0 1, numAt s 1 6, if numAt s 0 1 = 2 ∨ numAt s 0 1 = 3 then (txAt s 7).1 else ⟨#[]⟩, if numAt s 0 1 = 2 ∧ (txAt s 7).2.2 = 0 then (txAt s (txAt s 7).2.1).1 else ⟨#[]⟩, 0, 0, 0, []⟩ := by
    unfold guessP; rw [if_neg (by omega)]
  obtain ⟨R, HR⟩ : ∃ R, Hid (guessP s = R) := ⟨_, rfl⟩
  rw [HR.out] at hg ⊢
  have HG := Lib.hid hg
  clear hg
  have h0 := numAt_nonneg s 0 1
  have C0 := Lib.hid (fun W => rnumber_any s 0 1 W hs (by omega))
  have C1 := Lib.hid (fun W => rnumber_any s 1 6 W hs (by omega))
  have CT := Lib.hid (fun W => rtx_any s 7 W hs)
  have CU := Lib.hid (fun W => rtx_any s (txAt s 7).2.1 W hs)
  clear HR
  generalize numAt s 0 1 = k at *
  generalize numAt s 1 6 = t at *
  generalize txAt s (txAt s 7).2.1 = u2 at *
  generalize txAt s 7 = u1 at *
  obtain ⟨a1, a2, a3⟩ := u1
  obtain ⟨b1, b2, b3⟩ := u2
  dsimp only at *
  by_cases k2 : k = 2
  · subst k2
    by_cases h3 : a3 = 0
    · subst h3
      have HG2 := Lib.hid (show R = ⟨2, t, a1, b1, 0, 0, 0, []⟩ by rw [HG.out, if_pos (by omega), if_pos ⟨rfl, rfl⟩])
      clear HG
      go_enter Tryd.func43, Tryd.ntmps43
      go_wp2_with (first | (go_at_call 53; ((with_reducible refine (C0.out _).mono ?_); rintro e w1 ⟨rfl, rfl⟩)) | (go_at_call 53; ((with_reducible refine (C1.out _).mono ?_); rintro e w1 ⟨rfl, rfl⟩)) | (go_at_call 54; ((with_reducible refine (CT.out _).mono ?_); rintro e w1 ⟨rfl, rfl⟩)) | (go_at_call 54; ((with_reducible refine (CU.out _).mono ?_); rintro e w1 ⟨rfl, rfl⟩)))
      refine bodyPost_ret (v := recV ⟨2, t, a1, b1, 0, 0, 0, []⟩ none 0) (by simp [results, Tryd.results43, go_sem, recV]) rfl ?_
      rw [HG2.out]
      exact ⟨none, 0, rfl, pairsAt_nil _ _, by (repeat (first | exact Below.refl _ _ | (refine Below.alloc ?_ (by simp) _) | (refine Below.setCell ?_ (by simp) _))), fun x h => by cases h⟩
    · have g3 : (a3 == 0) = false := by rw [beq_eq_false_iff_ne]; exact h3
      have HG2 := Lib.hid (show R = ⟨2, t, a1, ⟨#[]⟩, 0, 0, 0, []⟩ by rw [HG.out, if_pos (by omega), if_neg (fun h => h3 h.2)])
      clear HG h3
      go_enter Tryd.func43, Tryd.ntmps43
      go_wp2_with (first | (go_at_call 53; ((with_reducible refine (C0.out _).mono ?_); rintro e w1 ⟨rfl, rfl⟩)) | (go_at_call 53; ((with_reducible refine (C1.out _).mono ?_); rintro e w1 ⟨rfl, rfl⟩)) | (go_at_call 54; ((with_reducible refine (CT.out _).mono ?_); rintro e w1 ⟨rfl, rfl⟩)) | (go_at_call 54; ((with_reducible refine (CU.out _).mono ?_); rintro e w1 ⟨rfl, rfl⟩)))
      refine bodyPost_ret (v := recV ⟨2, t, a1, ⟨#[]⟩, 0, 0, 0, []⟩ none 0) (by simp [results, Tryd.results43, go_sem, recV]) rfl ?_
      rw [HG2.out]
      exact ⟨none, 0, rfl, pairsAt_nil _ _, by (repeat (first | exact Below.refl _ _ | (refine Below.alloc ?_ (by simp) _) | (refine Below.setCell ?_ (by simp) _))), fun x h => by cases h⟩
  · by_cases k3 : k = 3
    · subst k3
      have HG2 := Lib.hid (show R = ⟨3, t, a1, ⟨#[]⟩, 0, 0, 0, []⟩ by rw [HG.out, if_pos (by omega), if_neg (by omega)])
      clear HG k2
      go_enter Tryd.func43, Tryd.ntmps43
      go_wp2_with (first | (go_at_call 53; ((with_reducible refine (C0.out _).mono ?_); rintro e w1 ⟨rfl, rfl⟩)) | (go_at_call 53; ((with_reducible refine (C1.out _).mono ?_); rintro e w1 ⟨rfl, rfl⟩)) | (go_at_call 54; ((with_reducible refine (CT.out _).mono ?_); rintro e w1 ⟨rfl, rfl⟩)) | (go_at_call 54; ((with_reducible refine (CU.out _).mono ?_); rintro e w1 ⟨rfl, rfl⟩)))
      refine bodyPost_ret (v := recV ⟨3, t, a1, ⟨#[]⟩, 0, 0, 0, []⟩ none 0) (by simp [results, Tryd.results43, go_sem, recV]) rfl ?_
      rw [HG2.out]
      exact ⟨none, 0, rfl, pairsAt_nil _ _, by (repeat (first | exact Below.refl _ _ | (refine Below.alloc ?_ (by simp) _) | (refine Below.setCell ?_ (by simp) _))), fun x h => by cases h⟩
    · have g2 : (k == 2) = false := by rw [beq_eq_false_iff_ne]; exact k2
      have g3 : (k == 3) = false := by rw [beq_eq_false_iff_ne]; exact k3
      have HG2 := Lib.hid (show R = ⟨k, t, ⟨#[]⟩, ⟨#[]⟩, 0, 0, 0, []⟩ by rw [HG.out, if_neg (by omega), if_neg (by omega)])
      clear HG k2 k3
      go_enter Tryd.func43, Tryd.ntmps43
      go_wp2_with (first | (go_at_call 53; ((with_reducible refine (C0.out _).mono ?_); rintro e w1 ⟨rfl, rfl⟩)) | (go_at_call 53; ((with_reducible refine (C1.out _).mono ?_); rintro e w1 ⟨rfl, rfl⟩)))
      refine bodyPost_ret (v := recV ⟨k, t, ⟨#[]⟩, ⟨#[]⟩, 0, 0, 0, []⟩ none 0) (by simp [results, Tryd.results43, go_sem, recV]) rfl ?_
      rw [HG2.out]
      exact ⟨none, 0, rfl, pairsAt_nil _ _, by (repeat (first | exact Below.refl _ _ | (refine Below.alloc ?_ (by simp) _) | (refine Below.setCell ?_ (by simp) _))), fun x h => by cases h⟩
end Go.Proofs.YthnpkhejfcclcaaDoor
