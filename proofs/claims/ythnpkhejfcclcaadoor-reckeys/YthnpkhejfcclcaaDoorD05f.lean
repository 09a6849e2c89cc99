/-
  Package rec: the contracts of putPairs and Encode.
-/
import Derived.Test.YthnpkhejfcclcaaDoorD05e
namespace Go.Proofs.YthnpkhejfcclcaaDoor
open Go.RowKit

abbrev U8T : TypeId := 5
/-- what a call changes that owns rows of bytes alone: nothing below base, nothing of another type -/
structure Kp (base : Nat) (w w' : World) : Prop where
  bel : Below base w w'
  typ : ∀ (k : Nat) c t f, w.heap[k]? = some (.cells c t f) → t ≠ U8T → w'.heap[k]? = w.heap[k]?
theorem Kp.refl (base : Nat) (w : World) : Kp base w w := ⟨Below.refl _ _, fun _ _ _ _ _ _ => rfl⟩
theorem Kp.trans {base : Nat} {w w1 w2 : World} (a : Kp base w w1) (b : Kp base w1 w2) : Kp base w w2 :=
  ⟨a.bel.trans b.bel, fun k c t f h ht => by
    have h1 := a.typ k c t f h ht
    exact (b.typ k c t f (h1.trans h) ht).trans h1⟩
theorem Kp.ofBelow {base : Nat} {w w' : World} (h : Below w.heap.size w w') (hb : base ≤ w.heap.size) : Kp base w w' :=
  ⟨h.mono hb, fun k _c _t _f hk _ => h.block k (Array.getElem?_eq_some_iff.1 hk).1⟩
theorem Kp.ofGrown {base : Nat} {w w' : World} {v : Value} {l : List UInt8} (h : OwnB base w v l) (hb : base ≤ w.heap.size) (hg : w.grownBy w' v.ownBlock) : Kp base w w' :=
  ⟨(Below.refl base w).grown hg hb (fun g e => (h.lt g e).1), fun k c t f hk ht => hg.block k (Array.getElem?_eq_some_iff.1 hk).1 (fun e => by
    have h' : w.ownsRow base 5 1 v l.length (bcl l) := h
    rcases h'.2 with ⟨rfl, _⟩ | ⟨g, C, cur, rfl, _, hg', _⟩
    · cases e
    · cases e; rw [hk] at hg'; cases hg'; exact ht rfl)⟩
theorem Box8.kp {w w' : World} {B base : Nat} {k t : Int} {ke va : ByteArray} {pa un nu : Int} {v : Value} (h : Box8 QT w B k t ke va pa un nu v) (a : Kp base w w') : Box8 QT w' B k t ke va pa un nu v := (a.typ _ _ _ _ h (by decide)).trans h
theorem Box5.kp {w w' : World} {B base : Nat} {x0 x1 x2 x3 x4 : Bool} (h : Box5 w B x0 x1 x2 x3 x4) (a : Kp base w w') : Box5 w' B x0 x1 x2 x3 x4 := (a.typ _ _ _ _ h (by decide)).trans h
theorem OwnB.str {base : Nat} {w : World} {v : Value} {l : List UInt8} (h : OwnB base w v l) (hl : 0 < l.length) : (convert 43 9 v).run Tryd.prog w = .ok (.string (baL l)) w := by
  have h' : w.ownsRow base 5 1 v l.length (bcl l) := h
  rcases h'.2 with ⟨_, h0⟩ | ⟨g, C, cur, rfl, _⟩
  · omega
  · refine run_convert_bytes_back w 43 9 5 ⟨g, 0, none⟩ C l Tryd.underlying43 Tryd.underlying5 Tryd.underlying9 ?_
    intro j hj
    exact h'.cells (g := g) rfl j _ (by simp [bcl, hj])
/-- a pair in a box of its own -/
def Box2 (w : World) (B : Nat) (p q : ByteArray) : Prop := w.heap[B]? = some (.cells #[.string p, .string q] 47 (0, 0))
theorem Box2.c0 {w : World} {B : Nat} {p q : ByteArray} (h : Box2 w B p q) : w.cell? ⟨B, 0, none⟩ = some (.string p) := by have h' : w.heap[B]? = _ := h; simp [World.cell?, h']
theorem Box2.c1 {w : World} {B : Nat} {p q : ByteArray} (h : Box2 w B p q) : w.cell? ⟨B, 1, none⟩ = some (.string q) := by have h' : w.heap[B]? = _ := h; simp [World.cell?, h']
theorem Box2.kp {w w' : World} {B base : Nat} {p q : ByteArray} (h : Box2 w B p q) (a : Kp base w w') : Box2 w' B p q := (a.typ _ _ _ _ h (by decide)).trans h
theorem box2_new (w : World) (p q : ByteArray) : Box2 (w.alloc (.cells #[.string p, .string q] 47)) w.heap.size p q := heap_alloc_new w _
set_option maxRecDepth 100000 in
set_option maxHeartbeats 2000000 in
theorem putPairs_any (w0 w : World) (a : Option Addr) (pr : Prs) (C : Nat) (v : Value) (l : List UInt8) (hP : PairsAt w0 a pr) (hr : risesB pr = true) (hn : pr.length ≤ 4000) (hb : Below w0.heap.size w0 w) (h : OwnB w0.heap.size w v l) (hl : l.length ≤ 1000) :
    Calls Tryd.prog 35 #[v, .slice a pr.length C] w fun e w' => ∃ v', e = .returned v' ∧ OwnB w0.heap.size w' v' (l ++ (Lib.leBytes 2 pr.length ++ pairsL pr)) ∧ Kp w0.heap.size w w' := by
  have C1 := putNumber_any w0.heap.size v l 2 pr.length w h hb.size (by decide) (by decide) (by rw [show (256 : Nat) ^ 2 = 65536 from rfl]; omega) (by omega) (by omega)
  have H1 := Lib.hid C1
  have HP := Lib.hid hP; have HR := Lib.hid hr; have HO := Lib.hid h; have HB := Lib.hid hb
  have hz : pr.length ≤ 4000 := hn
  clear C1 hP hr h hb
  go_enter Tryd.func35, Tryd.ntmps35
  go_wp2_with fail
  refine H1.out.mono ?_; rintro e w1 ⟨v1, rfl, o1, g1⟩
  have I0 := Lib.hid (show OwnB w0.heap.size w1 v1 (l ++ Lib.leBytes 2 pr.length ++ pairsL (pr.take 0)) by simpa [pairsL] using o1)
  have K0 := Lib.hid (Kp.ofGrown HO.out HB.out.size g1)
  clear o1 g1 H1 HO
  go_wp2_with fail
  go_loopw [0, 13] (fun v i wr => ∃ k : Nat, k ≤ pr.length ∧ i = .int .i64 (k : Int) ∧ OwnB w0.heap.size wr v (l ++ Lib.leBytes 2 pr.length ++ pairsL (pr.take k)) ∧ Kp w0.heap.size w wr) (fun _ i _ => pr.length - (intOf i).toNat)
  case atStart => exact ⟨0, by omega, rfl, I0.out, K0.out⟩
  case round =>
    obtain ⟨k, hk, rfl, hO, hK⟩ := hrel
    clear I0 K0
    have HO := Lib.hid hO; have HK := Lib.hid hK
    clear hO hK
    by_cases hc : k < pr.length
    · have c1 : (k : Int) < (pr.length : Int) := by omega
      have c0 : (0 : Int) ≤ (k : Int) := by omega
      obtain ⟨⟨pk, pv⟩, hp⟩ : ∃ p, pr[k]? = some p := ⟨_, List.getElem?_eq_getElem hc⟩
      obtain ⟨z1, z2⟩ := risesB_mem HR.out _ (List.mem_of_getElem? hp)
      have s1 := (keyB_size z1).2; have s2 := valB_size z2
      obtain ⟨g, off, rfl, d0, d1⟩ := HP.out.below (HB.out.trans HK.out.bel) k _ hp
      dsimp only at s1 s2 d0 d1
      have HT := Lib.hid (show pairsL (pr.take (k + 1)) = pairsL (pr.take k) ++ (txtL pk ++ txtL pv) by rw [List.take_add_one, hp]; exact pairsL_snoc _ _)
      have hlen : (pairsL (pr.take k)).length ≤ 200000 := by
        have := pairsL_len (risesB_take pr k HR.out)
        rw [List.length_take] at this; omega
      have l1 : (l ++ Lib.leBytes 2 pr.length ++ pairsL (pr.take k)).length ≤ 900000 := by rw [List.length_append, List.length_append, Lib.leBytes_length]; omega
      have hbase : w0.heap.size ≤ wr.heap.size := Nat.le_trans HB.out.size HK.out.bel.size
      have E1 := Lib.hid (show l ++ Lib.leBytes 2 pr.length ++ pairsL (pr.take (k + 1)) = l ++ Lib.leBytes 2 pr.length ++ pairsL (pr.take k) ++ txtL pk ++ txtL pv by rw [HT.out]; simp [List.append_assoc])
      clear HT hp z1 z2 hlen
      generalize l ++ Lib.leBytes 2 pr.length ++ pairsL (pr.take k) = L at *
      have ba := (Below.refl wr.heap.size wr).alloc (Nat.le_refl _) (.cells #[.string pk, .string pv] 47)
      have X2 := box2_new wr pk pv
      have CT := putText_rec w0.heap.size _ L pk _ (HO.out.below ba) (Nat.le_trans hbase ba.size) (by omega) (by omega)
      have K1 := HK.out.trans (Kp.ofBelow ba hbase)
      have HCT := Lib.hid CT; have HX2 := Lib.hid X2; have HK1 := Lib.hid K1; have HO1 := Lib.hid (HO.out.below ba); have hb1 := Nat.le_trans hbase ba.size
      clear CT X2 K1 ba HK HO
      go_wp2_with fail
      refine HCT.out.mono ?_; rintro e w2 ⟨v2, rfl, o2, g2⟩
      have k2 := Kp.ofGrown HO1.out hb1 g2
      have X3 := HX2.out.kp k2
      have f1 := X3.c1
      have hb2 := Nat.le_trans hb1 k2.bel.size
      have HK2 := Lib.hid (HK1.out.trans k2); have HO2 := Lib.hid o2
      have l2 : (L ++ txtL pk).length ≤ 950000 := by rw [List.length_append, txtL_len]; omega
      have CV := Lib.hid (putText_rec w0.heap.size v2 (L ++ txtL pk) pv w2 o2 hb2 (by omega) (by omega))
      clear o2 g2 k2 X3 HX2 HCT HK1 HO1
      go_wp2_with fail
      refine CV.out.mono ?_; rintro e w3 ⟨v3, rfl, o3, g3⟩
      have k3 := HK2.out.trans (Kp.ofGrown HO2.out hb2 g3)
      have HK3 := Lib.hid k3; have HO3 := Lib.hid o3
      clear k3 o3 g3 CV
      go_wp2
      exact ⟨⟨k + 1, by omega, by go_num, by rw [E1.out]; exact HO3.out, HK3.out⟩, by simp [intOf]; omega⟩
    · obtain rfl : k = pr.length := by omega
      have hO := HO.out
      rw [List.take_length, List.append_assoc] at hO
      have HO1 := Lib.hid hO
      clear hO HO
      go_wp2
      go_ret
      exact ⟨_, rfl, HO1.out, HK.out⟩
end Go.Proofs.YthnpkhejfcclcaaDoor
