/-
  The contracts of the document's answer for layer 1 (little, bad, Get, Put, Text, PutText, Pad, Bare).
-/
import Derived.Test.YtajbnfobmnibjaaW3
import Derived.Test.YtajbnfobmnibjaaM2
import Derived.Deep.RegionWith
import Derived.Deep.RegionHeld3
import Derived.Deep.DeepCutAuto
namespace Go.Proofs.Ytajbnfobmnibjaa
open Go.RowKit

theorem bcell {W w1 : World} (hb : Below W.heap.size W w1) : ∀ b o, b < W.heap.size → w1.cell? ⟨b, o, none⟩ = W.cell? ⟨b, o, none⟩ :=
  fun b o h => hb.cell (p := ⟨b, o, none⟩) h

/-- string(b) of one byte, by its cell -/
theorem run_string_one {P : Program} (src dst e : TypeId) (hs : P.underlying src = some (.slice e)) (he : P.underlying e = some (.int .u8)) (hd : P.underlying dst = some .string)
    (W : World) (g c v : Nat) (hv : v < 256) (hc : W.cell? ⟨g, 0, none⟩ = some (.int .u8 (v : Int))) :
    (convert src dst (.slice (some ⟨g, 0, none⟩) 1 c)).run P W = .ok (.string ⟨#[UInt8.ofNat v]⟩) W := by
  refine run_convert_bytes_back W src dst e ⟨g, 0, none⟩ c [UInt8.ofNat v] hs he hd ?_
  intro j hj
  obtain rfl : j = 0 := by simpa using hj
  show W.cell? ⟨g, 0, none⟩ = _
  rw [hc]
  simp only [List.getElem_cons_zero, UInt8.toNat_ofNat', Nat.mod_eq_of_lt hv]

set_option maxHeartbeats 800000 in
theorem little_any (k : Nat) (hk : k ≤ 1000000) : ∀ (n : Nat) (w : World), n < 18446744073709551616 →
    Calls Try.prog 62 #[.int .u64 n, .int .i64 k] w fun e w' => e = .returned (.string ⟨(Lib.leBytes k n).toArray⟩) ∧ Below w.heap.size w w' := by
  induction k with
  | zero =>
    intro n w hn
    clear hn
    go_enter Try.func62, Try.ntmps62
    go_wp2
    go_ret
    exact ⟨rfl, Below.refl _ _⟩
  | succ k ih =>
    intro n w hn
    obtain ⟨m, hm⟩ : ∃ m, m = n % 256 := ⟨_, rfl⟩
    obtain ⟨d, hd⟩ : ∃ d, d = n / 256 := ⟨_, rfl⟩
    have IH := Lib.hid fun w => ih (by omega) d w (by omega)
    clear ih
    have ec : ((k + 1 : Nat) : Int) = (k : Int) + 1 := by omega
    rw [ec]
    obtain ⟨L, hL⟩ : ∃ L : ByteArray, L = ⟨(Lib.leBytes k d).toArray⟩ := ⟨_, rfl⟩
    obtain ⟨B, hB⟩ : ∃ B : ByteArray, B = ⟨#[UInt8.ofNat m]⟩ := ⟨_, rfl⟩
    have hLs : L.size ≤ 1000000 := by rw [hL, Lib.size_eq]; show (Lib.leBytes k d).length ≤ _; rw [Lib.leBytes_length]; omega
    have hBs : B.size ≤ 1 := by rw [hB]; exact Nat.le_refl _
    have hfin : (⟨(Lib.leBytes (k + 1) n).toArray⟩ : ByteArray) = B ++ L := by
      apply ba_ext
      rw [ByteArray.data_append, hL, hB, Lib.leBytes, hm, hd]; simp
    rw [hfin]
    rw [← hL] at IH
    have r1 : IntKind.u8.wrap ((n : Int).tmod 256) = (m : Int) := by rw [IntKind.wrap_u8, Int.tmod_eq_emod_of_nonneg (by omega)]; omega
    have r2 : IntKind.u64.wrap ((n : Int) / 256) = (d : Int) := by rw [wraps_u64 _ (by omega) (by omega)]; omega
    have r3 : IntKind.i64.wrap (k : Int) = (k : Int) := IntWalk.i64_in _ (by omega)
    have hk0 : (((k : Int) + 1) == 0) = false := by simp; omega
    have hm1 : m < 256 := by omega
    have hst := fun W g c hc => run_string_one (P := Try.prog) 80 9 5 Try.underlying80 Try.underlying5 Try.underlying9 W g c m hm1 hc
    rw [← hB] at hst
    clear ec hfin hm hd hn hL hB
    go_enter Try.func62, Try.ntmps62
    go_wp2_with fail
    go_region_with (go_at_call 62; refine (IH.out _).mono ?_; rintro e w' ⟨rfl, hb⟩; have hbc := bcell hb; have hsz := hb.size)
    all_goals
      go_wp2
      go_ret
      have hsz' : w.heap.size ≤ w'.heap.size := Nat.le_trans (by simp) hsz
      refine ⟨rfl, ?_⟩
      first
        | exact (((Below.refl _ _).alloc (Nat.le_refl _) _).drew).trans (hb.mono (by simp))
        | exact (((Below.refl _ _).drew).trans (hb.mono (by simp))).alloc hsz' _
end Go.Proofs.Ytajbnfobmnibjaa
