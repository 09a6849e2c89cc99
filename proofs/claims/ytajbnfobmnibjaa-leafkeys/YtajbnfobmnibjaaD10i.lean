/-
  Package leaf: the contract of Put.
-/
import Derived.Test.YtajbnfobmnibjaaD10h
namespace Go.Proofs.Ytajbnfobmnibjaa
open Go.RowKit

/-- what whole answers, as a leaf and an error -/
def wholeL (R : Prs) (o : LfP) : LfP := if wgt R ≤ 231 then ⟨R, o.high, o.next⟩ else zeroL
def wholeE (R : Prs) : Int := if wgt R ≤ 231 then 0 else 6
theorem wholeO (a b : Option Addr) (C D : Nat) (R : Prs) (o : LfP) (W : World) (hA : PrAt W a C R) (hw : wgt R ≤ 1000000) (hh : o.high.size ≤ 1000000) (L : LfP) (er : Int) (hL : wholeL R o = L) (hE : wholeE R = er) :
    Calls Try.prog 58 #[.slice a R.length C, .agg #[.slice b o.pairs.length D, .string o.high, .int .i64 o.next]] W fun e w' => ∃ a2 C2, e = .returned (.tuple #[.agg #[.slice a2 L.pairs.length C2, .string L.high, .int .i64 L.next], .int .i64 er]) ∧ PrAt w' a2 C2 L.pairs ∧ Below W.heap.size W w' := by
  refine (whole10 a b C D R o W hA.at' hw hh).mono ?_
  rintro e w' ⟨rfl, hb⟩
  subst hL hE
  unfold wholeL wholeE
  by_cases h : wgt R ≤ 231
  · rw [if_pos h, if_pos h, if_pos h]
    exact ⟨a, C, rfl, hA.below hb, hb⟩
  · rw [if_neg h, if_neg h, if_neg h]
    exact ⟨none, 0, rfl, PrAt.zero _, hb⟩
def putOk (l : LfP) (k v : ByteArray) : Bool := rightL l && (keyB k && (valB v && (decide (l.high = noB) || lessB k l.high)))
def putL (l : LfP) (k v : ByteArray) : LfP := if putOk l k v then wholeL (putPl l.pairs k v) l else zeroL
def putE (l : LfP) (k v : ByteArray) : Int := if putOk l k v then wholeE (putPl l.pairs k v) else 1
theorem wgt_put (l : Prs) (k v : ByteArray) : wgt (putPl l k v) ≤ wgt l + pairN (k, v) := by
  unfold putPl
  have h : wgt l = wgt (l.take (findN l k)) + wgt (l.drop (findN l k)) := by rw [← wgt_app, List.take_append_drop]
  have h2 : wgt (l.drop (findN l k)) = wgt ((l.drop (findN l k)).take 1) + wgt ((l.drop (findN l k)).drop 1) := by rw [← wgt_app, List.take_append_drop]
  rw [List.drop_drop] at h2
  rw [wgt_app]
  cases hasN l k
  · simp only [Bool.false_eq_true, if_false, wgt]; omega
  · simp only [if_true, wgt]; omega
set_option maxRecDepth 100000 in
set_option maxHeartbeats 8000000 in
theorem put10 (a : Option Addr) (C : Nat) (l : LfP) (key val : ByteArray) (w : World) (hP : PrAt w a C l.pairs) (hS : SmallP l.pairs) (hh : l.high.size ≤ 1000000) (hw : wgt l.pairs ≤ 1000000) (hk : key.size ≤ 1000000) (hv : val.size ≤ 1000000) :
    Calls Try.prog 25 #[lfV a C l, .string key, .string val] w (LfOut w (putL l key val) (putE l key val)) := by
  have hn : l.pairs.length ≤ 1000000 := by have := wgt_len l.pairs; omega
  have bA : Below w.heap.size w (w.alloc (.cells #[.slice a l.pairs.length C, .string l.high, .int .i64 l.next] 24)) := (Below.refl _ w).alloc (Nat.le_refl _) _
  have bB : Below w.heap.size w ((w.alloc (.cells #[.slice a l.pairs.length C, .string l.high, .int .i64 l.next] 24)).alloc (.cells #[.slice none 0 0, .string ⟨#[]⟩, .int .i64 0] 24)) := bA.alloc bA.size _
  have e1 : (w.alloc (.cells #[.slice a l.pairs.length C, .string l.high, .int .i64 l.next] 24)).heap.size = w.heap.size + 1 := by simp
  have a1 := (At.new w #[.slice a l.pairs.length C, .string l.high, .int .i64 l.next] 24).reads ((Below.refl _ _).alloc (Nat.le_refl _) (.cells #[.slice none 0 0, .string ⟨#[]⟩, .int .i64 0] 24))
  have a2 := At.new (w.alloc (.cells #[.slice a l.pairs.length C, .string l.high, .int .i64 l.next] 24)) #[.slice none 0 0, .string ⟨#[]⟩, .int .i64 0] 24
  rw [e1] at a2
  have HB := Lib.hid bB; have H1 := Lib.hid a1; have H2 := Lib.hid a2
  clear bA bB e1 a1 a2
  have HN1 := Lib.hid (Nat.le_succ w.heap.size)
  have C1 := Lib.hid (fun (W : World) (b : Below w.heap.size w W) => right10 a C l W (hP.at'.below b) hS hh hw)
  have CK := Lib.hid (fun W => key10 key W hk)
  have CV := Lib.hid (fun W => value10 val W hv)
  have X := empty10 l.high
  have Y := lss10 key l.high
  unfold lfV at C1 ⊢
  obtain ⟨OK, hOK⟩ : ∃ b, putOk l key val = b := ⟨_, rfl⟩
  have HOK := Lib.hid hOK
  have HX := Lib.hid X; have HY := Lib.hid Y
  clear X Y hOK
  obtain ⟨L, hL⟩ : ∃ L, putL l key val = L := ⟨_, rfl⟩
  obtain ⟨E, hE⟩ : ∃ E, putE l key val = E := ⟨_, rfl⟩
  rw [hL, hE]
  have HL := Lib.hid hL; have HE := Lib.hid hE
  have HP := Lib.hid hP; have HS := Lib.hid hS; have HH := Lib.hid hh; have HW := Lib.hid hw; have HN := Lib.hid hn; have HKS := Lib.hid hk; have HVS := Lib.hid hv
  clear hL hE hP hS hh hw hn hk hv
  go_enter Try.func25, Try.ntmps25
  go_upto_region 1 with fail
  generalize (w.alloc (.cells #[.slice a l.pairs.length C, .string l.high, .int .i64 l.next] 24)).alloc (.cells #[.slice none 0 0, .string ⟨#[]⟩, .int .i64 0] 24) = W1 at *
  go_cut [34] (fun v wx => v = .bool (!OK) ∧ At wx w.heap.size #[.slice a l.pairs.length C, .string l.high, .int .i64 l.next] 24 ∧ At wx (w.heap.size + 1) #[.slice none 0 0, .string ⟨#[]⟩, .int .i64 0] 24 ∧ Below w.heap.size w wx)
  case first =>
    have d0 : W1.cell? ⟨w.heap.size, 0, none⟩ = some (.slice a l.pairs.length C) := H1.out.cell 0
    have d1 : W1.cell? ⟨w.heap.size, 1, none⟩ = some (.string l.high) := H1.out.cell 1
    have d2 : W1.cell? ⟨w.heap.size, 2, none⟩ = some (.int .i64 l.next) := H1.out.cell 2
    go_wp2_with fail
    refine (C1.out _ HB.out).mono ?_; rintro r W2 ⟨rfl, b2⟩
    have HB2 := Lib.hid (HB.out.trans (b2.mono HB.out.size)); have HA2 := Lib.hid (H1.out.reads b2); have HC2 := Lib.hid (H2.out.reads b2)
    clear b2 d0 d1 d2 H1 H2 C1 HP HS HW HN HL HE HB
    have d1 : W2.cell? ⟨w.heap.size, 1, none⟩ = some (.string l.high) := HA2.out.cell 1
    have hO := HOK.out
    unfold putOk at hO
    clear HOK
    cases hR : rightL l with
    | false =>
      obtain rfl : OK = false := by rw [← hO, hR]; rfl
      go_wp2_with fail
      go_meet
      exact ⟨rfl, HA2.out, HC2.out, HB2.out⟩
    | true =>
      rw [hR, Bool.true_and] at hO
      go_wp2_with fail
      refine (CK.out _).mono ?_; rintro r w3 ⟨rfl, rfl⟩
      cases hK : keyB key with
      | false =>
        obtain rfl : OK = false := by rw [← hO, hK]; rfl
        go_wp2_with fail
        go_meet
        exact ⟨rfl, HA2.out, HC2.out, HB2.out⟩
      | true =>
        rw [hK, Bool.true_and] at hO
        go_wp2_with fail
        refine (CV.out _).mono ?_; rintro r w3 ⟨rfl, rfl⟩
        cases hV : valB val with
        | false =>
          obtain rfl : OK = false := by rw [← hO, hV]; rfl
          go_wp2_with fail
          go_meet
          exact ⟨rfl, HA2.out, HC2.out, HB2.out⟩
        | true =>
          rw [hV, Bool.true_and] at hO
          have X := HX.out; have Y := HY.out
          by_cases h0 : l.high = noB
          · obtain rfl : OK = true := by rw [← hO, decide_eq_true h0]; rfl
            rw [decide_eq_true h0] at X
            clear h0 hO
            go_wp2_with fail
            go_meet
            exact ⟨rfl, HA2.out, HC2.out, HB2.out⟩
          · rw [decide_eq_false h0] at X
            rw [decide_eq_false h0, Bool.false_or] at hO
            rw [hO] at Y
            clear h0 hO
            cases OK
            · go_wp2_with fail
              go_meet
              exact ⟨rfl, HA2.out, HC2.out, HB2.out⟩
            · go_wp2_with fail
              go_meet
              exact ⟨rfl, HA2.out, HC2.out, HB2.out⟩
  case rest =>
    obtain ⟨rfl, hA2, hC2, hB2⟩ := hcut
    have HA2 := Lib.hid hA2; have HC2 := Lib.hid hC2; have HB2 := Lib.hid hB2
    clear hA2 hC2 hB2 H1 H2 HB C1 CK CV HX HY
    cases OK with
    | false =>
      obtain rfl : zeroL = L := by have := HL.out; unfold putL at this; rw [HOK.out] at this; exact this
      obtain rfl : 1 = E := by have := HE.out; unfold putE at this; rw [HOK.out] at this; exact this
      clear HP HS HH HW HN HKS HVS HL HE HOK
      have k0 : wc.cell? ⟨w.heap.size + 1, 0, none⟩ = some (.slice none 0 0) := HC2.out.cell 0
      have k1 : wc.cell? ⟨w.heap.size + 1, 1, none⟩ = some (.string ⟨#[]⟩) := HC2.out.cell 1
      have k2 : wc.cell? ⟨w.heap.size + 1, 2, none⟩ = some (.int .i64 0) := HC2.out.cell 2
      have z0 : wc.frozen? ⟨w.heap.size + 1, 0, none⟩ = false := HC2.out.fz 0
      have z1 : wc.frozen? ⟨w.heap.size + 1, 1, none⟩ = false := HC2.out.fz 1
      have z2 : wc.frozen? ⟨w.heap.size + 1, 2, none⟩ = false := HC2.out.fz 2
      have D := HC2.out.put3 (u := .slice none 0 0) (v := .string ⟨#[]⟩) (t := .int .i64 0)
      have BF := Lib.hid (below_put3 (B := w.heap.size + 1) (u := .slice none 0 0) (v := .string ⟨#[]⟩) (t := .int .i64 0) HB2.out HN1.out)
      have f0 := D.cell 0
      have f1 := D.cell 1
      have f2 := D.cell 2
      simp only [List.getElem?_toArray, List.getElem?_cons_zero, List.getElem?_cons_succ] at f0 f1 f2
      clear D
      go_wp2_with fail
      refine bodyPost_ret (v := Value.tuple #[zero10, .int .i64 1]) ?_ rfl ⟨none, 0, rfl, PrAt.zero _, BF.out⟩
      simp [results, Try.results25, go_sem, f0, f1, f2, zero10]
    | true =>
      have hO := HOK.out
      unfold putOk at hO
      simp only [Bool.and_eq_true] at hO
      have hR := hO.1
      have hr : Rise l.pairs := (rises_iff _).1 (rightL_iff.1 hR).2.1
      have hw2 : wgt l.pairs ≤ 231 := (rightL_iff.1 hR).1
      have hlen := wgt_len l.pairs
      have hfl := findN_le l.pairs key
      obtain ⟨R, hRR⟩ : ∃ R, putPl l.pairs key val = R := ⟨_, rfl⟩
      have hwR : wgt R ≤ 1000000 := by
        rw [← hRR]
        have h1 := wgt_put l.pairs key val
        have h2 : pairN (key, val) = 2 + key.size + val.size := rfl
        have h3 := (keyB_size hO.2.1).2
        have h4 : val.size ≤ 32 := by have := hO.2.2.1; simpa [valB] using this
        omega
      have hL : wholeL R l = L := by have := HL.out; unfold putL at this; rw [HOK.out, hRR] at this; exact this
      have hE : wholeE R = E := by have := HE.out; unfold putE at this; rw [HOK.out, hRR] at this; exact this
      have C2 := Lib.hid (find10 a C l.pairs key wc (HP.out.at'.below HB2.out) hr HN.out)
      obtain ⟨t, ht⟩ : ∃ t : Nat, (if hasN l.pairs key then findN l.pairs key + 1 else findN l.pairs key) = t := ⟨_, rfl⟩
      have htl : t ≤ l.pairs.length := by
        rw [← ht]
        cases hh : hasN l.pairs key with
        | false => exact hfl
        | true =>
          obtain ⟨v, hv⟩ := hasN_iff.1 hh
          exact (List.getElem?_eq_some_iff.1 hv).1
      have hft : findN l.pairs key ≤ t := by rw [← ht]; split <;> omega
      have hsm : SmallP [(key, val)] := fun p hp => by rw [List.mem_singleton.1 hp]; exact ⟨HKS.out, HVS.out⟩
      have CH := Lib.hid (fun (W : World) (b : Below w.heap.size w W) => show Calls Try.prog 59 #[.slice a l.pairs.length C, .int .i64 (findN l.pairs key : Int), .int .i64 (t : Int), .slice (some ⟨W.heap.size, 0, none⟩) 1 1] (W.alloc (.cells #[.string key, .string val] 44)).drew fun e w' => ∃ a' C', e = .returned (.slice a' R.length C') ∧ PrAt w' a' C' R ∧ Below (W.alloc (.cells #[.string key, .string val] 44)).drew.heap.size (W.alloc (.cells #[.string key, .string val] 44)).drew w' from by
        have hA1 := At.new W #[.string key, .string val] 44
        have X := changed10 a (some ⟨W.heap.size, 0, none⟩) C 1 l.pairs [(key, val)] (findN l.pairs key) t (W.alloc (.cells #[.string key, .string val] 44)).drew ((HP.out.below b).below ((Below.refl _ W).alloc (Nat.le_refl _) _).drew)
          (fun i p hp => by
            match i, hp with
            | 0, hp =>
              simp only [List.getElem?_cons_zero, Option.some.injEq] at hp
              subst hp
              exact ⟨_, 0, rfl, hA1.cell 0, hA1.cell 1⟩
            | i + 1, hp => simp at hp) hft htl (by omega) (by simp) HS.out hsm R (by rw [← hRR, ← ht]; unfold putPl; simp)
        exact X)
      have CW := Lib.hid (fun (a' : Option Addr) (C' : Nat) (W : World) (h : PrAt W a' C' R) => wholeO a' a C' C R l W h hwR HH.out L E hL hE)
      have HT := Lib.hid ht
      clear HP HS HH HW HKS HVS HL HE HOK hO hR hr hw2 hlen hRR hwR hL hE ht hsm
      have n0 := HN.out
      obtain ⟨f, hf⟩ : ∃ f, findN l.pairs key = f := ⟨_, rfl⟩
      obtain ⟨hs, hhs⟩ : ∃ hs, hasN l.pairs key = hs := ⟨_, rfl⟩
      rw [hf, hhs] at C2 HT
      rw [hf] at CH hft hfl
      clear hf hhs
      have f0 : (0 : Int) ≤ (f : Int) := by omega
      have f1 : (f : Int) ≤ 1000000 := by omega
      have d0 : wc.cell? ⟨w.heap.size, 0, none⟩ = some (.slice a l.pairs.length C) := HA2.out.cell 0
      go_wp2_with fail
      refine C2.out.mono ?_; rintro r W3 ⟨rfl, b3⟩
      have HB3 := Lib.hid (HB2.out.trans (b3.mono HB2.out.size)); have HA3 := Lib.hid (HA2.out.reads b3); have HC3 := Lib.hid (HC2.out.reads b3)
      clear b3 d0 HA2 C2 HB2 HC2
      go_upto_if 44 with fail
      go_cut [10] (fun v wx => v = .int .i64 (t : Int) ∧ wx = W3)
      case first =>
        cases hs
        · go_wp2_with fail
          go_meet
          exact ⟨by rw [← HT.out]; rfl, rfl⟩
        · go_wp2_with fail
          go_meet
          exact ⟨by rw [← HT.out]; go_num, rfl⟩
      case rest =>
        obtain ⟨rfl, rfl⟩ := hcut
        have qa : (wc.drew.cell? ⟨w.heap.size, 0, none⟩ = some (.slice a l.pairs.length C) ∧ wc.drew.cell? ⟨w.heap.size, 1, none⟩ = some (.string l.high) ∧ wc.drew.cell? ⟨w.heap.size, 2, none⟩ = some (.int .i64 l.next)) := ⟨HA3.out.cell 0, HA3.out.cell 1, HA3.out.cell 2⟩
        have bal : Below wc.heap.size wc (wc.alloc (.cells #[.string key, .string val] 44)).drew := ((Below.refl _ wc).alloc (Nat.le_refl _) _).drew
        have AA := HA3.out.reads bal
        have AC := HC3.out.reads bal
        have q0 : ((wc.alloc (.cells #[.string key, .string val] 44)).drew.cell? ⟨w.heap.size, 0, none⟩ = some (.slice a l.pairs.length C) ∧ (wc.alloc (.cells #[.string key, .string val] 44)).drew.cell? ⟨w.heap.size, 1, none⟩ = some (.string l.high) ∧ (wc.alloc (.cells #[.string key, .string val] 44)).drew.cell? ⟨w.heap.size, 2, none⟩ = some (.int .i64 l.next)) := ⟨AA.cell 0, AA.cell 1, AA.cell 2⟩
        have HAA := Lib.hid AA; have HAC := Lib.hid AC
        have HBA := Lib.hid (HB3.out.trans (bal.mono HB3.out.size))
        clear bal AA AC
        have ARM1 := Lib.hid (show ∀ v1, Below (wc.alloc (.cells #[.string key, .string val] 44)).drew.heap.size (wc.alloc (.cells #[.string key, .string val] 44)).drew v1 → (v1.cell? ⟨w.heap.size, 0, none⟩ = some (.slice a l.pairs.length C) ∧ v1.cell? ⟨w.heap.size, 1, none⟩ = some (.string l.high) ∧ v1.cell? ⟨w.heap.size, 2, none⟩ = some (.int .i64 l.next)) from fun v1 b1 => by
          have A1 := HAA.out.reads b1
          exact ⟨A1.cell 0, A1.cell 1, A1.cell 2⟩)
        have ARM2 := Lib.hid (show ∀ v1 v2 a2 C2, Below (wc.alloc (.cells #[.string key, .string val] 44)).drew.heap.size (wc.alloc (.cells #[.string key, .string val] 44)).drew v1 → Below v1.heap.size v1 v2 → PrAt v2 a2 C2 L.pairs → (v2.cell? ⟨w.heap.size, 0, none⟩ = some (.slice a l.pairs.length C) ∧ v2.cell? ⟨w.heap.size, 1, none⟩ = some (.string l.high) ∧ v2.cell? ⟨w.heap.size, 2, none⟩ = some (.int .i64 l.next)) ∧
            (v2.cell? ⟨w.heap.size + 1, 0, none⟩ = some (.slice none 0 0) ∧ v2.cell? ⟨w.heap.size + 1, 1, none⟩ = some (.string ⟨#[]⟩) ∧ v2.cell? ⟨w.heap.size + 1, 2, none⟩ = some (.int .i64 0) ∧ v2.frozen? ⟨w.heap.size + 1, 0, none⟩ = false ∧ v2.frozen? ⟨w.heap.size + 1, 1, none⟩ = false ∧ v2.frozen? ⟨w.heap.size + 1, 2, none⟩ = false) ∧
            ((((v2.setCell ⟨w.heap.size + 1, 0, none⟩ (.slice a2 L.pairs.length C2)).setCell ⟨w.heap.size + 1, 1, none⟩ (.string L.high)).setCell ⟨w.heap.size + 1, 2, none⟩ (.int .i64 L.next)).cell? ⟨w.heap.size, 0, none⟩ = some (.slice a l.pairs.length C) ∧ (((v2.setCell ⟨w.heap.size + 1, 0, none⟩ (.slice a2 L.pairs.length C2)).setCell ⟨w.heap.size + 1, 1, none⟩ (.string L.high)).setCell ⟨w.heap.size + 1, 2, none⟩ (.int .i64 L.next)).cell? ⟨w.heap.size, 1, none⟩ = some (.string l.high) ∧ (((v2.setCell ⟨w.heap.size + 1, 0, none⟩ (.slice a2 L.pairs.length C2)).setCell ⟨w.heap.size + 1, 1, none⟩ (.string L.high)).setCell ⟨w.heap.size + 1, 2, none⟩ (.int .i64 L.next)).cell? ⟨w.heap.size, 2, none⟩ = some (.int .i64 l.next)) ∧
            (At (((v2.setCell ⟨w.heap.size + 1, 0, none⟩ (.slice a2 L.pairs.length C2)).setCell ⟨w.heap.size + 1, 1, none⟩ (.string L.high)).setCell ⟨w.heap.size + 1, 2, none⟩ (.int .i64 L.next)) (w.heap.size + 1) #[.slice a2 L.pairs.length C2, .string L.high, .int .i64 L.next] 24 ∧ Below w.heap.size w (((v2.setCell ⟨w.heap.size + 1, 0, none⟩ (.slice a2 L.pairs.length C2)).setCell ⟨w.heap.size + 1, 1, none⟩ (.string L.high)).setCell ⟨w.heap.size + 1, 2, none⟩ (.int .i64 L.next)) ∧ PrAt (((v2.setCell ⟨w.heap.size + 1, 0, none⟩ (.slice a2 L.pairs.length C2)).setCell ⟨w.heap.size + 1, 1, none⟩ (.string L.high)).setCell ⟨w.heap.size + 1, 2, none⟩ (.int .i64 L.next)) a2 C2 L.pairs) from fun v1 v2 a2 C2 b1 b2 hp => by
          have A1 := (HAA.out.reads b1).reads b2
          have A2 := (HAC.out.reads b1).reads b2
          have B1 := HBA.out.trans (b1.mono HBA.out.size)
          have hl := HA3.out.lt
          have A4 := ((A1.setOther 0 (.slice a2 L.pairs.length C2) (g := w.heap.size + 1) (by omega)).setOther 1 (.string L.high) (g := w.heap.size + 1) (by omega)).setOther 2 (.int .i64 L.next) (g := w.heap.size + 1) (by omega)
          exact ⟨⟨A1.cell 0, A1.cell 1, A1.cell 2⟩, ⟨A2.cell 0, A2.cell 1, A2.cell 2, A2.fz 0, A2.fz 1, A2.fz 2⟩, ⟨A4.cell 0, A4.cell 1, A4.cell 2⟩, A2.put3, below_put3 (B1.trans (b2.mono B1.size)) HN1.out, PrAt.put3 A2 hp _ _ _⟩)
        have CH3 := Lib.hid (CH.out wc HB3.out)
        clear CH HA3 HB3 HC3 HT hfl htl hft n0
        go_wp2_with fail
        go_region_held3 (fun W => (W.cell? ⟨w.heap.size, 0, none⟩ = some (.slice a l.pairs.length C) ∧ W.cell? ⟨w.heap.size, 1, none⟩ = some (.string l.high) ∧ W.cell? ⟨w.heap.size, 2, none⟩ = some (.int .i64 l.next))) (first | exact qa | exact q0 | exact q1 | exact q2 | exact q3)
          (first
          | (go_at_call 59; ((with_reducible refine CH3.out.mono ?_); rintro e1 v1 ⟨a', C', rfl, hp1, b1⟩; have q1 := ARM1.out v1 b1; have HB1 := Lib.hid b1; have HP1 := Lib.hid hp1; clear b1 hp1))
          | (go_at_call 58; ((with_reducible refine (CW.out a' C' v1 HP1.out).mono ?_); rintro e2 v2 ⟨a2, C2, rfl, hp2, b2⟩; obtain ⟨q2, ⟨y0, y1, y2, y3, y4, y5⟩, q3, n2⟩ := ARM2.out v1 v2 a2 C2 HB1.out b2 hp2; have HN2 := Lib.hid n2; clear b2 n2 hp2)))
        all_goals
          have f0 := HN2.out.1.cell 0
          have f1 := HN2.out.1.cell 1
          have f2 := HN2.out.1.cell 2
          simp only [List.getElem?_toArray, List.getElem?_cons_zero, List.getElem?_cons_succ] at f0 f1 f2
          try go_wp2_with fail
          refine bodyPost_ret (v := Value.tuple #[.agg #[.slice a2 L.pairs.length C2, .string L.high, .int .i64 L.next], .int .i64 E]) ?_ rfl ⟨a2, C2, rfl, HN2.out.2.2, HN2.out.2.1⟩
          simp [results, Try.results25, go_sem, f0, f1, f2]
end Go.Proofs.Ytajbnfobmnibjaa
