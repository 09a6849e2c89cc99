/-
  Package rec: rows of bytes that a call owns; the contracts of putNumber, putText, putPairs.
-/
import Derived.Test.YthnpkhejfcclcaaDoorD05d
import Derived.Lib.AppendStr
import Derived.Maps.AppendAt
namespace Go.Proofs.YthnpkhejfcclcaaDoor
open Go.RowKit

def bcl (l : List UInt8) : List Value := l.map fun b => Value.int .u8 b.toNat
theorem bcl_append (l m : List UInt8) : bcl (l ++ m) = bcl l ++ bcl m := List.map_append
theorem strCells_baL (l : List UInt8) : Lib.strCells (baL l) = bcl l := rfl
/-- a row of bytes of the call's own -/
def OwnB (base : Nat) (w : World) (v : Value) (l : List UInt8) : Prop := w.ownsRow base 5 1 v l.length (bcl l)
theorem OwnB.below {base : Nat} {w w' : World} {v : Value} {l : List UInt8} (h : OwnB base w v l) (b : Below w.heap.size w w') : OwnB base w' v l := ownsRow_same h (fun g hg => b.block g (h.lt g hg).2)
theorem ownB_nil (base : Nat) (w : World) : OwnB base w (.slice none 0 0) [] := World.ownsRow_nil w base _ 1
theorem grown_ofBelow {w w' : World} (h : Below w.heap.size w w') (r : Option Nat) : w.grownBy w' r := ⟨h.os, h.tape, h.output, h.size, fun k hk _ => h.block k hk⟩
theorem OwnB.append {base : Nat} {w : World} {v : Value} {l : List UInt8} (h : OwnB base w v l) (m : List UInt8) (hb : base ≤ w.heap.size) (hl : l.length ≤ 1000000) (hm : m.length ≤ 1000000) :
    ∃ v' w', (Builtin.append_ #[43, 9] 43 #[v, .string (baL m)]).run Tryd.prog w = .ok v' w' ∧ OwnB base w' v' (l ++ m) ∧ w.grownBy w' v.ownBlock := by
  obtain ⟨i, hi, hz, hs, hby⟩ := Tryd.info_byte
  obtain ⟨v', w', h1, h2, h3, _⟩ := Lib.run_append_own_string (P := Tryd.prog) w base 43 9 43 5 i Tryd.underlying43 Tryd.underlying9 hi hz hs hby v l.length (bcl l) h (baL m) (by rw [baL_size]; unfold maxLen; omega) (by rw [baL_size]; omega) hb
  refine ⟨v', w', h1, ?_, h3⟩
  unfold OwnB
  rw [bcl_append, List.length_append]
  rw [baL_size, strCells_baL] at h2
  exact h2
theorem padZ (z : Nat) : (⟨((⟨#[]⟩ : ByteArray).data.toList ++ List.replicate ((z : Int).toNat - (⟨#[]⟩ : ByteArray).size) 0).toArray⟩ : ByteArray) = baL (List.replicate z 0) := by
  unfold baL; rw [Int.toNat_natCast]; simp [show (⟨#[]⟩ : ByteArray).size = 0 from rfl]
set_option maxRecDepth 100000 in
set_option maxHeartbeats 1000000 in
theorem putNumber_any (base : Nat) (v : Value) (l : List UInt8) (z n : Nat) (w : World) (h : OwnB base w v l) (hb : base ≤ w.heap.size) (h1 : 1 ≤ z) (h8 : z ≤ 8) (hn : n < 256 ^ z) (hn2 : n < 18446744073709551616) (hl : l.length ≤ 1000000) :
    Calls Tryd.prog 33 #[v, .int .i64 (z : Int), .int .i64 (n : Int)] w fun e w' => ∃ v', e = .returned v' ∧ OwnB base w' v' (l ++ Lib.leBytes z n) ∧ w.grownBy w' v.ownBlock := by
  have C1 := fun W => pad_ok ⟨#[]⟩ (z : Int) W (by omega) (by rw [show ((⟨#[]⟩ : ByteArray).size : Int) = 0 from rfl]; omega)
  rw [padZ] at C1
  have C2 := fun W => put_ok (baL (List.replicate z 0)) 0 (z : Int) (n : Int) W (by rw [baL_size, List.length_replicate]; omega) (errAt_ok.2 ⟨by omega, by omega, by omega, by rw [baL_size, List.length_replicate]; omega⟩) (by omega) (by rw [Int.toNat_natCast]; have h := Int.ofNat_lt.2 hn; rw [Int.natCast_pow] at h; exact h)
  rw [show (0 : Int).toNat = 0 from rfl, Int.toNat_natCast, Int.toNat_natCast, spliceB_whole _ _ (by rw [Lib.leBytes_length]; simp [baL])] at C2
  have hm : (Lib.leBytes z n).length ≤ 1000000 := by rw [Lib.leBytes_length]; omega
  have HA := Lib.hid (fun W (hW : Below w.heap.size w W) => (h.below hW).append (Lib.leBytes z n) (Nat.le_trans hb hW.size) hl hm)
  have H1 := Lib.hid C1; have H2 := Lib.hid C2
  clear C1 C2 hm h hn h1 h8
  generalize Lib.leBytes z n = m at *
  generalize baL (List.replicate z 0) = s0 at *
  go_enter Tryd.func33, Tryd.ntmps33
  go_wp2_with fail
  refine (H1.out _).mono ?_; rintro e w1 ⟨rfl, b1⟩
  go_wp2_with fail
  refine (H2.out _).mono ?_; rintro e w2 ⟨rfl, b2⟩
  have b3 := b1.trans (b2.mono b1.size)
  obtain ⟨v', w3, hr, ho, hg⟩ := HA.out _ b3
  have HR := Lib.hid hr; have HO := Lib.hid ho; have HG := Lib.hid ((grown_ofBelow b3 _).trans hg)
  clear hr ho hg b1 b2 b3 HA H1 H2
  go_wp2_with (at_builtin; refine wpList_append_run5 rfl (.tmp 24) (.tmp 25) _ _ rfl _ _ rfl rfl _ _ HR.out ?_)
  go_ret
  exact ⟨_, rfl, HO.out, HG.out⟩
theorem padT (t : Nat) : (⟨((⟨#[]⟩ : ByteArray).data.toList ++ List.replicate ((1 + (t : Int)).toNat - (⟨#[]⟩ : ByteArray).size) 0).toArray⟩ : ByteArray) = baL (List.replicate (1 + t) 0) := by
  unfold baL; rw [show (1 + (t : Int)).toNat = 1 + t by omega]; simp [show (⟨#[]⟩ : ByteArray).size = 0 from rfl]
set_option maxRecDepth 100000 in
set_option maxHeartbeats 1000000 in
theorem putText_rec (base : Nat) (v : Value) (l : List UInt8) (t : ByteArray) (w : World) (h : OwnB base w v l) (hb : base ≤ w.heap.size) (ht : t.size ≤ 255) (hl : l.length ≤ 1000000) :
    Calls Tryd.prog 34 #[v, .string t] w fun e w' => ∃ v', e = .returned v' ∧ OwnB base w' v' (l ++ txtL t) ∧ w.grownBy w' v.ownBlock := by
  have C1 := fun W => pad_ok ⟨#[]⟩ (1 + (t.size : Int)) W (by omega) (by rw [show ((⟨#[]⟩ : ByteArray).size : Int) = 0 from rfl]; omega)
  rw [padT] at C1
  have C2 := fun W => putText_ok (baL (List.replicate (1 + t.size) 0)) t 0 W (by rw [baL_size, List.length_replicate]; omega) (putTextErr_ok.2 ⟨by omega, by omega, by rw [baL_size, List.length_replicate]; omega⟩)
  rw [show (0 : Int).toNat = 0 from rfl, spliceB_whole _ _ (by simp [baL]; omega)] at C2
  have e1 : (⟨(UInt8.ofNat t.size :: t.data.toList).toArray⟩ : ByteArray) = baL (txtL t) := rfl
  rw [e1] at C2
  have hm : (txtL t).length ≤ 1000000 := by rw [txtL_len]; omega
  have HA := Lib.hid (fun W (hW : Below w.heap.size w W) => (h.below hW).append (txtL t) (Nat.le_trans hb hW.size) hl hm)
  have H1 := Lib.hid C1; have H2 := Lib.hid C2
  clear C1 C2 hm h e1
  generalize baL (List.replicate (1 + t.size) 0) = s0 at *
  generalize txtL t = m at *
  go_enter Tryd.func34, Tryd.ntmps34
  go_wp2_with fail
  refine (H1.out _).mono ?_; rintro e w1 ⟨rfl, b1⟩
  go_wp2_with fail
  refine (H2.out _).mono ?_; rintro e w2 ⟨rfl, b2⟩
  have b3 := b1.trans (b2.mono b1.size)
  obtain ⟨v', w3, hr, ho, hg⟩ := HA.out _ b3
  have HR := Lib.hid hr; have HO := Lib.hid ho; have HG := Lib.hid ((grown_ofBelow b3 _).trans hg)
  clear hr ho hg b1 b2 b3 HA H1 H2
  go_wp2_with (at_builtin; refine wpList_append_run5 rfl (.tmp 24) (.tmp 25) _ _ rfl _ _ rfl rfl _ _ HR.out ?_)
  go_ret
  exact ⟨_, rfl, HO.out, HG.out⟩
end Go.Proofs.YthnpkhejfcclcaaDoor
