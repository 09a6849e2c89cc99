/-
  The law package's without.
-/
import Derived.Test.YtajbnfobmnibjaaH10
namespace Go.Proofs.Ytajbnfobmnibjaa
open Go.RowKit

theorem own_mono {base base' n z : Nat} {w : World} {v : Value} {T : TypeId} {xs : List Value} (h : w.ownsRow base T z v n xs) (hb : base' ≤ base) : w.ownsRow base' T z v n xs := by
  refine ⟨h.1, ?_⟩
  rcases h.2 with h | ⟨g, C, cur, e, hg, r⟩
  · exact .inl h
  · exact .inr ⟨g, C, cur, e, Nat.le_trans hb hg, r⟩
theorem butK_step (l : Prs) (k : Nat) (key : ByteArray) (p : ByteArray × ByteArray) (hp : l[k]? = some p) : butK (l.take (k + 1)) key = if p.1 = key then butK (l.take k) key else butK (l.take k) key ++ [p] := by
  rw [List.take_add_one, hp]
  unfold butK
  simp only [Option.toList, List.filter_append]
  by_cases h : p.1 = key
  · rw [if_pos h, List.filter_cons_of_neg (by simp [h])]; simp
  · rw [if_neg h, List.filter_cons_of_pos (by simp [h])]; simp
set_option maxRecDepth 100000 in
set_option maxHeartbeats 4000000 in
theorem without10 (a : Option Addr) (C : Nat) (l : Prs) (key : ByteArray) (w : World) (hP : PairsAt w a l) (hl : l.length ≤ 100000) :
    Calls Try.prog 36 #[.slice a l.length C, .string key] w fun e w' => ∃ v, e = .returned v ∧ OwnP w.heap.size w' v (butK l key) ∧ Below w.heap.size w w' := by
  have HP := Lib.hid hP
  have bb := (Below.refl w.heap.size w).alloc (Nat.le_refl _) (.cells #[] 44)
  have I0 := Lib.hid (show OwnP w.heap.size (w.alloc (.cells #[] 44)) (.slice (some ⟨w.heap.size, 0, none⟩) 0 0) [] from own_fresh _ _ _ _ (Nat.le_refl _))
  have HB := Lib.hid bb
  have hpl : (l.length : Int) ≤ 100000 := by omega
  clear hP bb
  go_enter Try.func36, Try.ntmps36
  go_upto_region 2 with fail
  generalize w.alloc (.cells #[] 44) = W1 at *
  go_wp2_with fail
  go_loopw [5, 6] (fun v i wr => ∃ k : Nat, k ≤ l.length ∧ i = .int .i64 (k : Int) ∧ OwnP w.heap.size wr v (butK (l.take k) key) ∧ Below w.heap.size w wr) (fun _ i _ => l.length - (intOf i).toNat)
  case atStart => exact ⟨0, by omega, rfl, I0.out, HB.out⟩
  case round =>
    obtain ⟨k, hk, rfl, hO, hK⟩ := hrel
    have HO := Lib.hid hO; have HK := Lib.hid hK
    clear hO hK I0 HB
    have k0 : (0 : Int) ≤ (k : Int) := by omega
    by_cases hc : k < l.length
    · have c1 : (k : Int) < (l.length : Int) := by omega
      obtain ⟨⟨pk, pv⟩, hp⟩ : ∃ p, l[k]? = some p := ⟨_, List.getElem?_eq_getElem hc⟩
      obtain ⟨g, off, rfl, d0, d1⟩ := HP.out.below HK.out k _ hp
      dsimp only at d0 d1
      have hst := butK_step l k key _ hp
      have LB := beq10 pk key
      have hlen : (butK (l.take k) key).length ≤ 100000 := by
        have h1 : (butK (l.take k) key).length ≤ (l.take k).length := List.length_filter_le _ _
        rw [List.length_take] at h1; omega
      by_cases he : pk = key
      · rw [decide_eq_true he] at LB
        rw [if_pos he] at hst
        have HS := Lib.hid hst
        clear hst he hp
        go_wp2_with fail
        exact ⟨⟨k + 1, by omega, by go_num, by rw [HS.out]; exact HO.out, HK.out⟩, by simp [intOf]; omega⟩
      · rw [decide_eq_false he] at LB
        rw [if_neg he] at hst
        have HS := Lib.hid hst
        obtain ⟨g2, C2, w2, hap, hO2, hg2⟩ := OwnP.append HO.out pk pv hlen HK.out.size
        have ba := (Below.refl wr.heap.size wr).alloc (Nat.le_refl _) (.cells #[.string pk, .string pv] 44)
        have HK2 := Lib.hid (below_grown (own_below HO.out ba) (HK.out.trans (ba.mono HK.out.size)) hg2)
        have HAP := Lib.hid hap; have HO2 := Lib.hid hO2
        clear hst he hp hap hO2 hg2 ba
        go_wp2_with (at_builtin; refine wpList_append_run10 rfl (.tmp 21) (.tmp 26) _ _ rfl _ _ rfl rfl _ _ HAP.out ?_)
        exact ⟨⟨k + 1, by omega, by go_num, by rw [HS.out]; exact HO2.out, HK2.out⟩, by simp [intOf]; omega⟩
    · obtain rfl : k = l.length := by omega
      go_wp2_with fail
      go_ret
      have hO := HO.out
      rw [List.take_length] at hO
      exact ⟨_, rfl, hO, HK.out⟩
end Go.Proofs.Ytajbnfobmnibjaa
