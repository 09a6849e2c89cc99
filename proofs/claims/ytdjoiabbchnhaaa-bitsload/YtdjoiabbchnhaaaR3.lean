/-
  The document's pages: the contracts of Run and Load.
-/
import Derived.Test.YtdjoiabbchnhaaaR2
namespace Go.Proofs.Ytdjoiabbchnhaaa
open Go.RowKit Go.Shelf

set_option maxHeartbeats 1000000 in
theorem rrun_neg (w : World) (p b : Nat) (L : List Bool) (H : IsR w p b L) (n : Int) (h : n < 1) :
    Calls Try.prog 29 #[.pointer (some ⟨p, 0, none⟩), .int .i64 n] w fun e w' => e = .returned (.tuple #[.int .i64 0, .bool false]) ∧ w = w' := by
  have cs := H.cs
  go_enter Try.func29, Try.ntmps29
  go_wp2
  go_loop [6] (fun _ => True) (fun _ => 0)
  case atStart => trivial
  case round =>
    go_wp2
    go_ret2
    exact ⟨rfl, rfl⟩
set_option maxHeartbeats 1000000 in
theorem rrun_any (w : World) (p b : Nat) (L : List Bool) (H : IsR w p b L) (n : Nat) (h : 1 ≤ n) (hw : n ≤ 9223372036854775807) :
    Calls Try.prog 29 #[.pointer (some ⟨p, 0, none⟩), .int .i64 (n : Int)] w fun e w' =>
      ((∃ k, k + n ≤ L.length ∧ freeAt L n k ∧ (∀ k', k' < k → ¬ freeAt L n k') ∧ e = .returned (.tuple #[.int .i64 (k : Int), .bool true])) ∨
       ((∀ k', k' + n ≤ L.length → ¬ freeAt L n k') ∧ e = .returned (.tuple #[.int .i64 0, .bool false]))) ∧ w = w' := by
  have cs := H.cs
  have hn2 := H.n2
  have HH := Lib.hid H
  have h1 : (1 : Int) ≤ (n : Int) := by omega
  clear H
  go_enter Try.func29, Try.ntmps29
  go_wp2
  go_loop [6] (fun i => ∃ t : Nat, i = .int .i64 (t : Int) ∧ (t = 0 ∨ t + n ≤ L.length + 1) ∧ Hid (∀ k', k' < t → ¬ freeAt L n k')) (fun i => L.length + 2 - (intOf i).toNat)
  case atStart => exact ⟨0, rfl, .inl rfl, fun k' hk => by omega⟩
  case round =>
    obtain ⟨t, rfl, ht, HT⟩ := hrel
    have hov : (t : Int) + (n : Int) ≤ 9223372036854775807 := by omega
    by_cases hlt : t + n ≤ L.length
    · have i1 : (t : Int) + (n : Int) ≤ (L.length : Int) := by omega
      clear hov ht
      go_wp2
      go_loop [7, 8] (fun f k => ∃ m : Nat, m ≤ n ∧ k = .int .i64 ((t + m : Nat) : Int) ∧ ((f = .bool true ∧ Hid (∀ s, s < m → tk L (t + s) = false)) ∨ (f = .bool false ∧ Hid (¬ freeAt L n t)))) (fun _ k => t + n - (intOf k).toNat)
      case atStart => exact ⟨0, by omega, rfl, .inl ⟨rfl, fun s hs => by omega⟩⟩
      case round =>
        obtain ⟨m, hm, rfl, (⟨rfl, HF⟩ | ⟨rfl, HF⟩)⟩ := hrel
        · by_cases hmn : m < n
          · have cb := HH.out.cb (t + m) (by omega)
            obtain ⟨k, HK⟩ : ∃ k, Hid (t + m = k) := ⟨_, rfl⟩
            have hk := HK.out
            have k0 : (0 : Int) ≤ ((t + m : Nat) : Int) := by omega
            have k1 : ((t + m : Nat) : Int) < (L.length : Int) := by omega
            have k2 : ((t + m : Nat) : Int) < (t : Int) + (n : Int) := by omega
            rw [HK.out] at cb k0 k1 k2 ⊢
            have k3 : k ≤ 1024 := by omega
            clear hk
            cases htk : tk L k
            · rw [htk] at cb
              go_wp2
              have hk := HK.out
              refine ⟨⟨m + 1, by omega, by rw [← Nat.add_assoc, HK.out]; go_num, .inl ⟨rfl, fun s hs => ?_⟩⟩, by simp [intOf]; omega⟩
              by_cases e : s = m
              · subst e; rw [HK.out]; exact htk
              · exact HF.out s (by omega)
            · rw [htk] at cb
              go_wp2
              have hk := HK.out
              refine ⟨⟨m + 1, by omega, by rw [← Nat.add_assoc, HK.out]; go_num, .inr ⟨rfl, fun hf => ?_⟩⟩, by simp [intOf]; omega⟩
              have := hf m hmn
              rw [HK.out, htk] at this; cases this
          · obtain rfl : m = n := by omega
            have k2 : ¬ (((t + m : Nat) : Int) < (t : Int) + (m : Int)) := by omega
            go_wp2
            go_ret2
            exact ⟨.inl ⟨t, hlt, HF.out, HT.out, rfl⟩, rfl⟩
        · go_wp2
          all_goals
            refine ⟨⟨t + 1, by go_num, .inr (by omega), fun k' hk' => ?_⟩, by simp [intOf]; omega⟩
            by_cases e : k' = t
            · subst e; exact HF.out
            · exact HT.out k' (by omega)
    · have i1 : ¬ ((t : Int) + (n : Int) ≤ (L.length : Int)) := by omega
      go_wp2
      go_ret2
      exact ⟨.inr ⟨fun k' hk' => HT.out k' (by omega), rfl⟩, rfl⟩
end Go.Proofs.Ytdjoiabbchnhaaa
