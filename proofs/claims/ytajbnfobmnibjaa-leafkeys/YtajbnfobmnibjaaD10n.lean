/-
  Package leaf: rows of bytes that a call owns; the contract of textBytes.
-/
import Derived.Test.YtajbnfobmnibjaaD10m
import Derived.Test.YtajbnfobmnibjaaW2
import Derived.Test.YtajbnfobmnibjaaW3
import Derived.Lib.AppendStr
import Derived.Maps.AppendAt
namespace Go.Proofs.Ytajbnfobmnibjaa
open Go.RowKit

def baL10 (l : List UInt8) : ByteArray := ⟨l.toArray⟩
theorem baL10_size (l : List UInt8) : (baL10 l).size = l.length := by rw [Lib.size_eq]; simp [baL10]
def bcl10 (l : List UInt8) : List Value := l.map fun b => Value.int .u8 b.toNat
theorem bcl10_append (l m : List UInt8) : bcl10 (l ++ m) = bcl10 l ++ bcl10 m := List.map_append
theorem strCells_baL10 (l : List UInt8) : Lib.strCells (baL10 l) = bcl10 l := rfl
/-- a row of bytes of the call's own -/
def OwnB10 (base : Nat) (w : World) (v : Value) (l : List UInt8) : Prop := w.ownsRow base 5 1 v l.length (bcl10 l)
theorem OwnB10.below {base : Nat} {w w' : World} {v : Value} {l : List UInt8} (h : OwnB10 base w v l) (b : Below w.heap.size w w') : OwnB10 base w' v l := ownsRow_same h (fun g hg => b.block g (h.lt g hg).2)
theorem grown10 {w w' : World} (h : Below w.heap.size w w') (r : Option Nat) : w.grownBy w' r := ⟨h.os, h.tape, h.output, h.size, fun k hk _ => h.block k hk⟩
theorem OwnB10.append {base : Nat} {w : World} {v : Value} {l : List UInt8} (h : OwnB10 base w v l) (m : List UInt8) (hb : base ≤ w.heap.size) (hl : l.length ≤ 1000000) (hm : m.length ≤ 1000000) :
    ∃ v' w', (Builtin.append_ #[80, 9] 80 #[v, .string (baL10 m)]).run Try.prog w = .ok v' w' ∧ OwnB10 base w' v' (l ++ m) ∧ w.grownBy w' v.ownBlock := by
  obtain ⟨i, hi, hz, hs, hby⟩ := Try.info_byte
  obtain ⟨v', w', h1, h2, h3, _⟩ := Lib.run_append_own_string (P := Try.prog) w base 80 9 80 5 i Try.underlying80 Try.underlying9 hi hz hs hby v l.length (bcl10 l) h (baL10 m) (by rw [baL10_size]; unfold maxLen; omega) (by rw [baL10_size]; omega) hb
  refine ⟨v', w', h1, ?_, h3⟩
  unfold OwnB10
  rw [bcl10_append, List.length_append]
  rw [baL10_size, strCells_baL10] at h2
  exact h2
theorem padT10 (t : Nat) : (⟨((⟨#[]⟩ : ByteArray).data.toList ++ List.replicate ((1 + (t : Int)).toNat - (⟨#[]⟩ : ByteArray).size) 0).toArray⟩ : ByteArray) = baL10 (List.replicate (1 + t) 0) := by
  unfold baL10; rw [show (1 + (t : Int)).toNat = 1 + t by omega]; simp [show (⟨#[]⟩ : ByteArray).size = 0 from rfl]
theorem txtL10_len (t : ByteArray) : (txtL t).length = 1 + t.size := by unfold txtL; rw [List.length_cons, Lib.size_eq]; omega
set_option maxRecDepth 100000 in
set_option maxHeartbeats 1000000 in
theorem textBytes10 (t : ByteArray) (w : World) (ht : t.size ≤ 255) :
    Calls Try.prog 49 #[.string t] w fun e w' => e = .returned (.string (baL10 (txtL t))) ∧ Below w.heap.size w w' := by
  have C1 := fun W => pad_ok ⟨#[]⟩ (1 + (t.size : Int)) W (by omega) (by rw [show ((⟨#[]⟩ : ByteArray).size : Int) = 0 from rfl]; omega)
  rw [padT10] at C1
  have C2 := fun W => putText_ok (baL10 (List.replicate (1 + t.size) 0)) t 0 W (by rw [baL10_size, List.length_replicate]; omega) (putTextErr_ok.2 ⟨by omega, by omega, by rw [baL10_size, List.length_replicate]; omega⟩)
  rw [show (0 : Int).toNat = 0 from rfl, spliceB_whole _ _ (by simp [baL10]; omega)] at C2
  have e1 : (⟨(UInt8.ofNat t.size :: t.data.toList).toArray⟩ : ByteArray) = baL10 (txtL t) := rfl
  rw [e1] at C2
  have H1 := Lib.hid C1; have H2 := Lib.hid C2
  have t0 : (0 : Int) ≤ (t.size : Int) := by omega
  have t1 : (t.size : Int) ≤ 255 := by omega
  clear C1 C2 e1
  generalize baL10 (List.replicate (1 + t.size) 0) = s0 at *
  generalize baL10 (txtL t) = m at *
  go_enter Try.func49, Try.ntmps49
  go_wp2_with fail
  refine (H1.out _).mono ?_; rintro e w1 ⟨rfl, b1⟩
  go_wp2_with fail
  refine (H2.out _).mono ?_; rintro e w2 ⟨rfl, b2⟩
  have HB := Lib.hid (b1.trans (b2.mono b1.size))
  clear b1 b2 H1 H2
  go_wp2_with fail
  go_ret
  exact ⟨rfl, HB.out⟩
end Go.Proofs.Ytajbnfobmnibjaa
