/-
  The law package's fixed calls of leaf: they are as the document says.
-/
import Derived.Test.YtajbnfobmnibjaaF10a
import Derived.Test.YtajbnfobmnibjaaC05b
namespace Go.Proofs.Ytajbnfobmnibjaa
open Go.RowKit

set_option maxRecDepth 100000 in
set_option maxHeartbeats 8000000 in
theorem fixed10 (w : World) : Calls Try.prog 22 #[] w fun e w' => e = .returned (.bool true) ∧ Below w.heap.size w w' := by
  have HB := Lib.hid (Below.refl w.heap.size w)
  go_enter Try.func22, Try.ntmps22
  go_wp2_with fail
  refine (fx_put1 _).mono ?_; rintro e W1 ⟨aL, CL, rfl, haL, b⟩
  have HB1 := HB.out.trans (b.mono HB.out.size)
  clear HB  b
  have HB := Lib.hid HB1
  clear HB1 
  have PL0 := haL
  have b := (Below.refl W1.heap.size W1).alloc (Nat.le_refl _) (.cells #[.slice aL 1 CL, .string ⟨#[]⟩, .int .i64 0] 24)
  have ZL := At.new W1 #[.slice aL 1 CL, .string ⟨#[]⟩, .int .i64 0] 24
  have PL1 := PL0.below b
  have HB1 := HB.out.trans (b.mono HB.out.size)
  clear HB  b
  have HB := Lib.hid HB1
  clear HB1 
  have XL := Lib.hid ZL; have PL := Lib.hid PL1
  clear ZL PL0 PL1 haL
  go_upto_region 2 with fail
  generalize (W1.alloc (.cells #[.slice aL 1 CL, .string ⟨#[]⟩, .int .i64 0] 24)) = V1 at *
  have dL0 := XL.out.cell 0
  have dL1 := XL.out.cell 1
  have dL2 := XL.out.cell 2
  simp only [List.getElem?_toArray, List.getElem?_cons_zero, List.getElem?_cons_succ] at dL0 dL1 dL2
  go_wp2_with fail
  refine (fx_put2 _ _ _ PL.out).mono ?_; rintro e W2 ⟨aM, CM, rfl, haM, b⟩
  clear dL0 dL1 dL2
  have YL := XL.out.reads b; have QL := PL.out.below b
  have HB1 := HB.out.trans (b.mono HB.out.size)
  clear HB XL PL b
  have XL := Lib.hid YL; have PL := Lib.hid QL
  have HB := Lib.hid HB1
  clear HB1 YL QL
  have PM0 := haM
  have b := (Below.refl W2.heap.size W2).alloc (Nat.le_refl _) (.cells #[.slice aM 2 CM, .string ⟨#[]⟩, .int .i64 0] 24)
  have ZM := At.new W2 #[.slice aM 2 CM, .string ⟨#[]⟩, .int .i64 0] 24
  have PM1 := PM0.below b
  have YL := XL.out.reads b; have QL := PL.out.below b
  have HB1 := HB.out.trans (b.mono HB.out.size)
  clear HB XL PL b
  have XL := Lib.hid YL; have PL := Lib.hid QL
  have HB := Lib.hid HB1
  clear HB1 YL QL
  have XM := Lib.hid ZM; have PM := Lib.hid PM1
  clear ZM PM0 PM1 haM
  go_upto_region 3 with fail
  generalize (W2.alloc (.cells #[.slice aM 2 CM, .string ⟨#[]⟩, .int .i64 0] 24)) = V2 at *
  have dM0 := XM.out.cell 0
  have dM1 := XM.out.cell 1
  have dM2 := XM.out.cell 2
  simp only [List.getElem?_toArray, List.getElem?_cons_zero, List.getElem?_cons_succ] at dM0 dM1 dM2
  go_wp2_with fail
  refine (fx_get1 _ _ _ PM.out).mono ?_; rintro e W3 ⟨rfl, b⟩
  clear dM0 dM1 dM2
  have YL := XL.out.reads b; have QL := PL.out.below b
  have YM := XM.out.reads b; have QM := PM.out.below b
  have HB1 := HB.out.trans (b.mono HB.out.size)
  clear HB XL PL XM PM b
  have XL := Lib.hid YL; have PL := Lib.hid QL
  have XM := Lib.hid YM; have PM := Lib.hid QM
  have HB := Lib.hid HB1
  clear HB1 YL QL YM QM
  have dM0 := XM.out.cell 0
  have dM1 := XM.out.cell 1
  have dM2 := XM.out.cell 2
  simp only [List.getElem?_toArray, List.getElem?_cons_zero, List.getElem?_cons_succ] at dM0 dM1 dM2
  go_wp2_with fail
  refine (fx_get2 _ _ _ PM.out).mono ?_; rintro e W4 ⟨rfl, b⟩
  clear dM0 dM1 dM2
  have YL := XL.out.reads b; have QL := PL.out.below b
  have YM := XM.out.reads b; have QM := PM.out.below b
  have HB1 := HB.out.trans (b.mono HB.out.size)
  clear HB XL PL XM PM b
  have XL := Lib.hid YL; have PL := Lib.hid QL
  have XM := Lib.hid YM; have PM := Lib.hid QM
  have HB := Lib.hid HB1
  clear HB1 YL QL YM QM
  have dM0 := XM.out.cell 0
  have dM1 := XM.out.cell 1
  have dM2 := XM.out.cell 2
  simp only [List.getElem?_toArray, List.getElem?_cons_zero, List.getElem?_cons_succ] at dM0 dM1 dM2
  go_wp2_with fail
  refine (fx_del _ _ _ PM.out).mono ?_; rintro e W5 ⟨aN, CN, rfl, haN, b⟩
  clear dM0 dM1 dM2
  have YL := XL.out.reads b; have QL := PL.out.below b
  have YM := XM.out.reads b; have QM := PM.out.below b
  have HB1 := HB.out.trans (b.mono HB.out.size)
  clear HB XL PL XM PM b
  have XL := Lib.hid YL; have PL := Lib.hid QL
  have XM := Lib.hid YM; have PM := Lib.hid QM
  have HB := Lib.hid HB1
  clear HB1 YL QL YM QM
  have PN0 := haN
  have b := (Below.refl W5.heap.size W5).alloc (Nat.le_refl _) (.cells #[.slice aN 1 CN, .string ⟨#[]⟩, .int .i64 0] 24)
  have ZN := At.new W5 #[.slice aN 1 CN, .string ⟨#[]⟩, .int .i64 0] 24
  have PN1 := PN0.below b
  have YL := XL.out.reads b; have QL := PL.out.below b
  have YM := XM.out.reads b; have QM := PM.out.below b
  have HB1 := HB.out.trans (b.mono HB.out.size)
  clear HB XL PL XM PM b
  have XL := Lib.hid YL; have PL := Lib.hid QL
  have XM := Lib.hid YM; have PM := Lib.hid QM
  have HB := Lib.hid HB1
  clear HB1 YL QL YM QM
  have XN := Lib.hid ZN; have PN := Lib.hid PN1
  clear ZN PN0 PN1 haN
  go_upto_region 6 with fail
  generalize (W5.alloc (.cells #[.slice aN 1 CN, .string ⟨#[]⟩, .int .i64 0] 24)) = V5 at *
  have dM0 := XM.out.cell 0
  have dM1 := XM.out.cell 1
  have dM2 := XM.out.cell 2
  simp only [List.getElem?_toArray, List.getElem?_cons_zero, List.getElem?_cons_succ] at dM0 dM1 dM2
  go_wp2_with fail
  refine (fx_split1 _ _ _ PM.out).mono ?_; rintro e W6 ⟨aA, CA, aB, CB, rfl, haA, haB, b⟩
  clear dM0 dM1 dM2
  have YL := XL.out.reads b; have QL := PL.out.below b
  have YM := XM.out.reads b; have QM := PM.out.below b
  have YN := XN.out.reads b; have QN := PN.out.below b
  have HB1 := HB.out.trans (b.mono HB.out.size)
  clear HB XL PL XM PM XN PN b
  have XL := Lib.hid YL; have PL := Lib.hid QL
  have XM := Lib.hid YM; have PM := Lib.hid QM
  have XN := Lib.hid YN; have PN := Lib.hid QN
  have HB := Lib.hid HB1
  clear HB1 YL QL YM QM YN QN
  have PA0 := haA
  have PB0 := haB
  have b := (Below.refl W6.heap.size W6).alloc (Nat.le_refl _) (.cells #[.slice aA 1 CA, .string ⟨#[98]⟩, .int .i64 7] 24)
  have ZA := At.new W6 #[.slice aA 1 CA, .string ⟨#[98]⟩, .int .i64 7] 24
  have PA1 := PA0.below b
  have PB1 := PB0.below b
  have YL := XL.out.reads b; have QL := PL.out.below b
  have YM := XM.out.reads b; have QM := PM.out.below b
  have YN := XN.out.reads b; have QN := PN.out.below b
  have HB1 := HB.out.trans (b.mono HB.out.size)
  clear HB XL PL XM PM XN PN b
  have XL := Lib.hid YL; have PL := Lib.hid QL
  have XM := Lib.hid YM; have PM := Lib.hid QM
  have XN := Lib.hid YN; have PN := Lib.hid QN
  have HB := Lib.hid HB1
  clear HB1 YL QL YM QM YN QN
  have b := (Below.refl (W6.alloc (.cells #[.slice aA 1 CA, .string ⟨#[98]⟩, .int .i64 7] 24)).heap.size (W6.alloc (.cells #[.slice aA 1 CA, .string ⟨#[98]⟩, .int .i64 7] 24))).alloc (Nat.le_refl _) (.cells #[.slice aB 1 CB, .string ⟨#[]⟩, .int .i64 0] 24)
  have ZB := At.new (W6.alloc (.cells #[.slice aA 1 CA, .string ⟨#[98]⟩, .int .i64 7] 24)) #[.slice aB 1 CB, .string ⟨#[]⟩, .int .i64 0] 24
  have PA2 := PA1.below b
  have PB2 := PB1.below b
  have ZA := ZA.reads b
  have YL := XL.out.reads b; have QL := PL.out.below b
  have YM := XM.out.reads b; have QM := PM.out.below b
  have YN := XN.out.reads b; have QN := PN.out.below b
  have HB1 := HB.out.trans (b.mono HB.out.size)
  clear HB XL PL XM PM XN PN b
  have XL := Lib.hid YL; have PL := Lib.hid QL
  have XM := Lib.hid YM; have PM := Lib.hid QM
  have XN := Lib.hid YN; have PN := Lib.hid QN
  have HB := Lib.hid HB1
  clear HB1 YL QL YM QM YN QN
  rw [show (W6.alloc (.cells #[.slice aA 1 CA, .string ⟨#[98]⟩, .int .i64 7] 24)).heap.size = W6.heap.size + 1 by simp] at ZB
  have XA := Lib.hid ZA; have PA := Lib.hid PA2
  have XB := Lib.hid ZB; have PB := Lib.hid PB2
  clear ZA ZB PA0 PA1 PA2 PB0 PB1 PB2 haA haB
  go_upto_region 7 with fail
  generalize ((W6.alloc (.cells #[.slice aA 1 CA, .string ⟨#[98]⟩, .int .i64 7] 24)).alloc (.cells #[.slice aB 1 CB, .string ⟨#[]⟩, .int .i64 0] 24)) = V6 at *
  have dA0 := XA.out.cell 0
  have dA1 := XA.out.cell 1
  have dA2 := XA.out.cell 2
  have dB0 := XB.out.cell 0
  have dB1 := XB.out.cell 1
  have dB2 := XB.out.cell 2
  simp only [List.getElem?_toArray, List.getElem?_cons_zero, List.getElem?_cons_succ] at dA0 dA1 dA2 dB0 dB1 dB2
  go_wp2_with fail
  refine (fx_join _ _ _ _ _ PA.out PB.out).mono ?_; rintro e W7 ⟨aO, CO, rfl, haO, b⟩
  clear dA0 dA1 dA2 dB0 dB1 dB2
  have YL := XL.out.reads b; have QL := PL.out.below b
  have YM := XM.out.reads b; have QM := PM.out.below b
  have YN := XN.out.reads b; have QN := PN.out.below b
  have YA := XA.out.reads b; have QA := PA.out.below b
  have YB := XB.out.reads b; have QB := PB.out.below b
  have HB1 := HB.out.trans (b.mono HB.out.size)
  clear HB XL PL XM PM XN PN XA PA XB PB b
  have XL := Lib.hid YL; have PL := Lib.hid QL
  have XM := Lib.hid YM; have PM := Lib.hid QM
  have XN := Lib.hid YN; have PN := Lib.hid QN
  have XA := Lib.hid YA; have PA := Lib.hid QA
  have XB := Lib.hid YB; have PB := Lib.hid QB
  have HB := Lib.hid HB1
  clear HB1 YL QL YM QM YN QN YA QA YB QB
  have PO0 := haO
  have b := (Below.refl W7.heap.size W7).alloc (Nat.le_refl _) (.cells #[.slice aO 2 CO, .string ⟨#[]⟩, .int .i64 0] 24)
  have ZO := At.new W7 #[.slice aO 2 CO, .string ⟨#[]⟩, .int .i64 0] 24
  have PO1 := PO0.below b
  have YL := XL.out.reads b; have QL := PL.out.below b
  have YM := XM.out.reads b; have QM := PM.out.below b
  have YN := XN.out.reads b; have QN := PN.out.below b
  have YA := XA.out.reads b; have QA := PA.out.below b
  have YB := XB.out.reads b; have QB := PB.out.below b
  have HB1 := HB.out.trans (b.mono HB.out.size)
  clear HB XL PL XM PM XN PN XA PA XB PB b
  have XL := Lib.hid YL; have PL := Lib.hid QL
  have XM := Lib.hid YM; have PM := Lib.hid QM
  have XN := Lib.hid YN; have PN := Lib.hid QN
  have XA := Lib.hid YA; have PA := Lib.hid QA
  have XB := Lib.hid YB; have PB := Lib.hid QB
  have HB := Lib.hid HB1
  clear HB1 YL QL YM QM YN QN YA QA YB QB
  have XO := Lib.hid ZO; have PO := Lib.hid PO1
  clear ZO PO0 PO1 haO
  go_upto_region 8 with fail
  generalize (W7.alloc (.cells #[.slice aO 2 CO, .string ⟨#[]⟩, .int .i64 0] 24)) = V7 at *
  have dA0 := XA.out.cell 0
  have dA1 := XA.out.cell 1
  have dA2 := XA.out.cell 2
  simp only [List.getElem?_toArray, List.getElem?_cons_zero, List.getElem?_cons_succ] at dA0 dA1 dA2
  go_wp2_with fail
  refine (fx_put3 _ _ _ PA.out).mono ?_; rintro e W8 ⟨aS, CS, rfl, haS, b⟩
  clear dA0 dA1 dA2
  have YL := XL.out.reads b; have QL := PL.out.below b
  have YM := XM.out.reads b; have QM := PM.out.below b
  have YN := XN.out.reads b; have QN := PN.out.below b
  have YA := XA.out.reads b; have QA := PA.out.below b
  have YB := XB.out.reads b; have QB := PB.out.below b
  have YO := XO.out.reads b; have QO := PO.out.below b
  have HB1 := HB.out.trans (b.mono HB.out.size)
  clear HB XL PL XM PM XN PN XA PA XB PB XO PO b
  have XL := Lib.hid YL; have PL := Lib.hid QL
  have XM := Lib.hid YM; have PM := Lib.hid QM
  have XN := Lib.hid YN; have PN := Lib.hid QN
  have XA := Lib.hid YA; have PA := Lib.hid QA
  have XB := Lib.hid YB; have PB := Lib.hid QB
  have XO := Lib.hid YO; have PO := Lib.hid QO
  have HB := Lib.hid HB1
  clear HB1 YL QL YM QM YN QN YA QA YB QB YO QO
  have PS0 := haS
  have b := (Below.refl W8.heap.size W8).alloc (Nat.le_refl _) (.cells #[.slice aS 0 CS, .string ⟨#[]⟩, .int .i64 0] 24)
  have ZS := At.new W8 #[.slice aS 0 CS, .string ⟨#[]⟩, .int .i64 0] 24
  have PS1 := PS0.below b
  have YL := XL.out.reads b; have QL := PL.out.below b
  have YM := XM.out.reads b; have QM := PM.out.below b
  have YN := XN.out.reads b; have QN := PN.out.below b
  have YA := XA.out.reads b; have QA := PA.out.below b
  have YB := XB.out.reads b; have QB := PB.out.below b
  have YO := XO.out.reads b; have QO := PO.out.below b
  have HB1 := HB.out.trans (b.mono HB.out.size)
  clear HB XL PL XM PM XN PN XA PA XB PB XO PO b
  have XL := Lib.hid YL; have PL := Lib.hid QL
  have XM := Lib.hid YM; have PM := Lib.hid QM
  have XN := Lib.hid YN; have PN := Lib.hid QN
  have XA := Lib.hid YA; have PA := Lib.hid QA
  have XB := Lib.hid YB; have PB := Lib.hid QB
  have XO := Lib.hid YO; have PO := Lib.hid QO
  have HB := Lib.hid HB1
  clear HB1 YL QL YM QM YN QN YA QA YB QB YO QO
  have XS := Lib.hid ZS; have PS := Lib.hid PS1
  clear ZS PS0 PS1 haS
  go_upto_region 9 with fail
  generalize (W8.alloc (.cells #[.slice aS 0 CS, .string ⟨#[]⟩, .int .i64 0] 24)) = V8 at *
  clear XS PS
  have dL0 := XL.out.cell 0
  have dL1 := XL.out.cell 1
  have dL2 := XL.out.cell 2
  simp only [List.getElem?_toArray, List.getElem?_cons_zero, List.getElem?_cons_succ] at dL0 dL1 dL2
  go_wp2_with fail
  refine (fx_split2 _ _ _ PL.out).mono ?_; rintro e W9 ⟨aT, CT, aU, CU, rfl, haT, haU, b⟩
  clear dL0 dL1 dL2
  have YL := XL.out.reads b; have QL := PL.out.below b
  have YM := XM.out.reads b; have QM := PM.out.below b
  have YN := XN.out.reads b; have QN := PN.out.below b
  have YA := XA.out.reads b; have QA := PA.out.below b
  have YB := XB.out.reads b; have QB := PB.out.below b
  have YO := XO.out.reads b; have QO := PO.out.below b
  have HB1 := HB.out.trans (b.mono HB.out.size)
  clear HB XL PL XM PM XN PN XA PA XB PB XO PO b
  have XL := Lib.hid YL; have PL := Lib.hid QL
  have XM := Lib.hid YM; have PM := Lib.hid QM
  have XN := Lib.hid YN; have PN := Lib.hid QN
  have XA := Lib.hid YA; have PA := Lib.hid QA
  have XB := Lib.hid YB; have PB := Lib.hid QB
  have XO := Lib.hid YO; have PO := Lib.hid QO
  have HB := Lib.hid HB1
  clear HB1 YL QL YM QM YN QN YA QA YB QB YO QO
  have PT0 := haT
  have PU0 := haU
  have b := (Below.refl W9.heap.size W9).alloc (Nat.le_refl _) (.cells #[.slice aT 0 CT, .string ⟨#[]⟩, .int .i64 0] 24)
  have ZT := At.new W9 #[.slice aT 0 CT, .string ⟨#[]⟩, .int .i64 0] 24
  have PT1 := PT0.below b
  have PU1 := PU0.below b
  have YL := XL.out.reads b; have QL := PL.out.below b
  have YM := XM.out.reads b; have QM := PM.out.below b
  have YN := XN.out.reads b; have QN := PN.out.below b
  have YA := XA.out.reads b; have QA := PA.out.below b
  have YB := XB.out.reads b; have QB := PB.out.below b
  have YO := XO.out.reads b; have QO := PO.out.below b
  have HB1 := HB.out.trans (b.mono HB.out.size)
  clear HB XL PL XM PM XN PN XA PA XB PB XO PO b
  have XL := Lib.hid YL; have PL := Lib.hid QL
  have XM := Lib.hid YM; have PM := Lib.hid QM
  have XN := Lib.hid YN; have PN := Lib.hid QN
  have XA := Lib.hid YA; have PA := Lib.hid QA
  have XB := Lib.hid YB; have PB := Lib.hid QB
  have XO := Lib.hid YO; have PO := Lib.hid QO
  have HB := Lib.hid HB1
  clear HB1 YL QL YM QM YN QN YA QA YB QB YO QO
  have b := (Below.refl (W9.alloc (.cells #[.slice aT 0 CT, .string ⟨#[]⟩, .int .i64 0] 24)).heap.size (W9.alloc (.cells #[.slice aT 0 CT, .string ⟨#[]⟩, .int .i64 0] 24))).alloc (Nat.le_refl _) (.cells #[.slice aU 0 CU, .string ⟨#[]⟩, .int .i64 0] 24)
  have ZU := At.new (W9.alloc (.cells #[.slice aT 0 CT, .string ⟨#[]⟩, .int .i64 0] 24)) #[.slice aU 0 CU, .string ⟨#[]⟩, .int .i64 0] 24
  have PT2 := PT1.below b
  have PU2 := PU1.below b
  have ZT := ZT.reads b
  have YL := XL.out.reads b; have QL := PL.out.below b
  have YM := XM.out.reads b; have QM := PM.out.below b
  have YN := XN.out.reads b; have QN := PN.out.below b
  have YA := XA.out.reads b; have QA := PA.out.below b
  have YB := XB.out.reads b; have QB := PB.out.below b
  have YO := XO.out.reads b; have QO := PO.out.below b
  have HB1 := HB.out.trans (b.mono HB.out.size)
  clear HB XL PL XM PM XN PN XA PA XB PB XO PO b
  have XL := Lib.hid YL; have PL := Lib.hid QL
  have XM := Lib.hid YM; have PM := Lib.hid QM
  have XN := Lib.hid YN; have PN := Lib.hid QN
  have XA := Lib.hid YA; have PA := Lib.hid QA
  have XB := Lib.hid YB; have PB := Lib.hid QB
  have XO := Lib.hid YO; have PO := Lib.hid QO
  have HB := Lib.hid HB1
  clear HB1 YL QL YM QM YN QN YA QA YB QB YO QO
  rw [show (W9.alloc (.cells #[.slice aT 0 CT, .string ⟨#[]⟩, .int .i64 0] 24)).heap.size = W9.heap.size + 1 by simp] at ZU
  have XT := Lib.hid ZT; have PT := Lib.hid PT2
  have XU := Lib.hid ZU; have PU := Lib.hid PU2
  clear ZT ZU PT0 PT1 PT2 PU0 PU1 PU2 haT haU
  go_upto_region 10 with fail
  generalize ((W9.alloc (.cells #[.slice aT 0 CT, .string ⟨#[]⟩, .int .i64 0] 24)).alloc (.cells #[.slice aU 0 CU, .string ⟨#[]⟩, .int .i64 0] 24)) = V9 at *
  clear XT PT XU PU
  have dM0 := XM.out.cell 0
  have dM1 := XM.out.cell 1
  have dM2 := XM.out.cell 2
  simp only [List.getElem?_toArray, List.getElem?_cons_zero, List.getElem?_cons_succ] at dM0 dM1 dM2
  go_wp2_with fail
  refine (fx_encM _ _ _ PM.out).mono ?_; rintro e W10 ⟨rfl, b⟩
  clear dM0 dM1 dM2
  have YL := XL.out.reads b; have QL := PL.out.below b
  have YM := XM.out.reads b; have QM := PM.out.below b
  have YN := XN.out.reads b; have QN := PN.out.below b
  have YA := XA.out.reads b; have QA := PA.out.below b
  have YB := XB.out.reads b; have QB := PB.out.below b
  have YO := XO.out.reads b; have QO := PO.out.below b
  have HB1 := HB.out.trans (b.mono HB.out.size)
  clear HB XL PL XM PM XN PN XA PA XB PB XO PO b
  have XL := Lib.hid YL; have PL := Lib.hid QL
  have XM := Lib.hid YM; have PM := Lib.hid QM
  have XN := Lib.hid YN; have PN := Lib.hid QN
  have XA := Lib.hid YA; have PA := Lib.hid QA
  have XB := Lib.hid YB; have PB := Lib.hid QB
  have XO := Lib.hid YO; have PO := Lib.hid QO
  have HB := Lib.hid HB1
  clear HB1 YL QL YM QM YN QN YA QA YB QB YO QO
  go_wp2_with fail
  refine (fx_dec1 _).mono ?_; rintro e W11 ⟨aX, CX, rfl, haX, b⟩
  have YL := XL.out.reads b; have QL := PL.out.below b
  have YM := XM.out.reads b; have QM := PM.out.below b
  have YN := XN.out.reads b; have QN := PN.out.below b
  have YA := XA.out.reads b; have QA := PA.out.below b
  have YB := XB.out.reads b; have QB := PB.out.below b
  have YO := XO.out.reads b; have QO := PO.out.below b
  have HB1 := HB.out.trans (b.mono HB.out.size)
  clear HB XL PL XM PM XN PN XA PA XB PB XO PO b
  have XL := Lib.hid YL; have PL := Lib.hid QL
  have XM := Lib.hid YM; have PM := Lib.hid QM
  have XN := Lib.hid YN; have PN := Lib.hid QN
  have XA := Lib.hid YA; have PA := Lib.hid QA
  have XB := Lib.hid YB; have PB := Lib.hid QB
  have XO := Lib.hid YO; have PO := Lib.hid QO
  have HB := Lib.hid HB1
  clear HB1 YL QL YM QM YN QN YA QA YB QB YO QO
  have PX0 := haX
  have b := (Below.refl W11.heap.size W11).alloc (Nat.le_refl _) (.cells #[.slice aX 2 CX, .string ⟨#[]⟩, .int .i64 0] 24)
  have ZX := At.new W11 #[.slice aX 2 CX, .string ⟨#[]⟩, .int .i64 0] 24
  have PX1 := PX0.below b
  have YL := XL.out.reads b; have QL := PL.out.below b
  have YM := XM.out.reads b; have QM := PM.out.below b
  have YN := XN.out.reads b; have QN := PN.out.below b
  have YA := XA.out.reads b; have QA := PA.out.below b
  have YB := XB.out.reads b; have QB := PB.out.below b
  have YO := XO.out.reads b; have QO := PO.out.below b
  have HB1 := HB.out.trans (b.mono HB.out.size)
  clear HB XL PL XM PM XN PN XA PA XB PB XO PO b
  have XL := Lib.hid YL; have PL := Lib.hid QL
  have XM := Lib.hid YM; have PM := Lib.hid QM
  have XN := Lib.hid YN; have PN := Lib.hid QN
  have XA := Lib.hid YA; have PA := Lib.hid QA
  have XB := Lib.hid YB; have PB := Lib.hid QB
  have XO := Lib.hid YO; have PO := Lib.hid QO
  have HB := Lib.hid HB1
  clear HB1 YL QL YM QM YN QN YA QA YB QB YO QO
  have XX := Lib.hid ZX; have PX := Lib.hid PX1
  clear ZX PX0 PX1 haX
  go_upto_region 11 with fail
  generalize (W11.alloc (.cells #[.slice aX 2 CX, .string ⟨#[]⟩, .int .i64 0] 24)) = V11 at *
  have dM0 := XM.out.cell 0
  have dM1 := XM.out.cell 1
  have dM2 := XM.out.cell 2
  simp only [List.getElem?_toArray, List.getElem?_cons_zero, List.getElem?_cons_succ] at dM0 dM1 dM2
  go_wp2_with fail
  refine (fx_encM _ _ _ PM.out).mono ?_; rintro e W12 ⟨rfl, b⟩
  clear dM0 dM1 dM2
  have YL := XL.out.reads b; have QL := PL.out.below b
  have YM := XM.out.reads b; have QM := PM.out.below b
  have YN := XN.out.reads b; have QN := PN.out.below b
  have YA := XA.out.reads b; have QA := PA.out.below b
  have YB := XB.out.reads b; have QB := PB.out.below b
  have YO := XO.out.reads b; have QO := PO.out.below b
  have YX := XX.out.reads b; have QX := PX.out.below b
  have HB1 := HB.out.trans (b.mono HB.out.size)
  clear HB XL PL XM PM XN PN XA PA XB PB XO PO XX PX b
  have XL := Lib.hid YL; have PL := Lib.hid QL
  have XM := Lib.hid YM; have PM := Lib.hid QM
  have XN := Lib.hid YN; have PN := Lib.hid QN
  have XA := Lib.hid YA; have PA := Lib.hid QA
  have XB := Lib.hid YB; have PB := Lib.hid QB
  have XO := Lib.hid YO; have PO := Lib.hid QO
  have XX := Lib.hid YX; have PX := Lib.hid QX
  have HB := Lib.hid HB1
  clear HB1 YL QL YM QM YN QN YA QA YB QB YO QO YX QX
  go_wp2_with fail
  refine (fx_dec2 _).mono ?_; rintro e W13 ⟨aV, CV, rfl, haV, b⟩
  have YL := XL.out.reads b; have QL := PL.out.below b
  have YM := XM.out.reads b; have QM := PM.out.below b
  have YN := XN.out.reads b; have QN := PN.out.below b
  have YA := XA.out.reads b; have QA := PA.out.below b
  have YB := XB.out.reads b; have QB := PB.out.below b
  have YO := XO.out.reads b; have QO := PO.out.below b
  have YX := XX.out.reads b; have QX := PX.out.below b
  have HB1 := HB.out.trans (b.mono HB.out.size)
  clear HB XL PL XM PM XN PN XA PA XB PB XO PO XX PX b
  have XL := Lib.hid YL; have PL := Lib.hid QL
  have XM := Lib.hid YM; have PM := Lib.hid QM
  have XN := Lib.hid YN; have PN := Lib.hid QN
  have XA := Lib.hid YA; have PA := Lib.hid QA
  have XB := Lib.hid YB; have PB := Lib.hid QB
  have XO := Lib.hid YO; have PO := Lib.hid QO
  have XX := Lib.hid YX; have PX := Lib.hid QX
  have HB := Lib.hid HB1
  clear HB1 YL QL YM QM YN QN YA QA YB QB YO QO YX QX
  have PV0 := haV
  have b := (Below.refl W13.heap.size W13).alloc (Nat.le_refl _) (.cells #[.slice aV 0 CV, .string ⟨#[]⟩, .int .i64 0] 24)
  have ZV := At.new W13 #[.slice aV 0 CV, .string ⟨#[]⟩, .int .i64 0] 24
  have PV1 := PV0.below b
  have YL := XL.out.reads b; have QL := PL.out.below b
  have YM := XM.out.reads b; have QM := PM.out.below b
  have YN := XN.out.reads b; have QN := PN.out.below b
  have YA := XA.out.reads b; have QA := PA.out.below b
  have YB := XB.out.reads b; have QB := PB.out.below b
  have YO := XO.out.reads b; have QO := PO.out.below b
  have YX := XX.out.reads b; have QX := PX.out.below b
  have HB1 := HB.out.trans (b.mono HB.out.size)
  clear HB XL PL XM PM XN PN XA PA XB PB XO PO XX PX b
  have XL := Lib.hid YL; have PL := Lib.hid QL
  have XM := Lib.hid YM; have PM := Lib.hid QM
  have XN := Lib.hid YN; have PN := Lib.hid QN
  have XA := Lib.hid YA; have PA := Lib.hid QA
  have XB := Lib.hid YB; have PB := Lib.hid QB
  have XO := Lib.hid YO; have PO := Lib.hid QO
  have XX := Lib.hid YX; have PX := Lib.hid QX
  have HB := Lib.hid HB1
  clear HB1 YL QL YM QM YN QN YA QA YB QB YO QO YX QX
  have XV := Lib.hid ZV; have PV := Lib.hid PV1
  clear ZV PV0 PV1 haV
  clear XV PV
  have dL0 := XL.out.cell 0
  have dL1 := XL.out.cell 1
  have dL2 := XL.out.cell 2
  have dM0 := XM.out.cell 0
  have dM1 := XM.out.cell 1
  have dM2 := XM.out.cell 2
  have dN0 := XN.out.cell 0
  have dN1 := XN.out.cell 1
  have dN2 := XN.out.cell 2
  have dA0 := XA.out.cell 0
  have dA1 := XA.out.cell 1
  have dA2 := XA.out.cell 2
  have dB0 := XB.out.cell 0
  have dB1 := XB.out.cell 1
  have dB2 := XB.out.cell 2
  simp only [List.getElem?_toArray, List.getElem?_cons_zero, List.getElem?_cons_succ] at dL0 dL1 dL2 dM0 dM1 dM2 dN0 dN1 dN2 dA0 dA1 dA2 dB0 dB1 dB2
  go_wp2_with fail
  refine (fx_encL _ _ _ PL.out).mono ?_; rintro e W14 ⟨rfl, b⟩
  clear dL0 dL1 dL2 dM0 dM1 dM2 dN0 dN1 dN2 dA0 dA1 dA2 dB0 dB1 dB2
  have YL := XL.out.reads b; have QL := PL.out.below b
  have YM := XM.out.reads b; have QM := PM.out.below b
  have YN := XN.out.reads b; have QN := PN.out.below b
  have YA := XA.out.reads b; have QA := PA.out.below b
  have YB := XB.out.reads b; have QB := PB.out.below b
  have YO := XO.out.reads b; have QO := PO.out.below b
  have YX := XX.out.reads b; have QX := PX.out.below b
  have HB1 := HB.out.trans (b.mono HB.out.size)
  clear HB XL PL XM PM XN PN XA PA XB PB XO PO XX PX b
  have XL := Lib.hid YL; have PL := Lib.hid QL
  have XM := Lib.hid YM; have PM := Lib.hid QM
  have XN := Lib.hid YN; have PN := Lib.hid QN
  have XA := Lib.hid YA; have PA := Lib.hid QA
  have XB := Lib.hid YB; have PB := Lib.hid QB
  have XO := Lib.hid YO; have PO := Lib.hid QO
  have XX := Lib.hid YX; have PX := Lib.hid QX
  have HB := Lib.hid HB1
  clear HB1 YL QL YM QM YN QN YA QA YB QB YO QO YX QX
  have dN0 := XN.out.cell 0
  have dN1 := XN.out.cell 1
  have dN2 := XN.out.cell 2
  have dA0 := XA.out.cell 0
  have dA1 := XA.out.cell 1
  have dA2 := XA.out.cell 2
  have dB0 := XB.out.cell 0
  have dB1 := XB.out.cell 1
  have dB2 := XB.out.cell 2
  have dO0 := XO.out.cell 0
  have dO1 := XO.out.cell 1
  have dO2 := XO.out.cell 2
  have dM0 := XM.out.cell 0
  have dM1 := XM.out.cell 1
  have dM2 := XM.out.cell 2
  simp only [List.getElem?_toArray, List.getElem?_cons_zero, List.getElem?_cons_succ] at dN0 dN1 dN2 dA0 dA1 dA2 dB0 dB1 dB2 dO0 dO1 dO2 dM0 dM1 dM2
  go_wp2_with fail
  refine (fx_same _ _ _ _ _ PO.out PM.out).mono ?_; rintro e W15 ⟨rfl, b⟩
  clear dN0 dN1 dN2 dA0 dA1 dA2 dB0 dB1 dB2 dO0 dO1 dO2 dM0 dM1 dM2
  have YL := XL.out.reads b; have QL := PL.out.below b
  have YM := XM.out.reads b; have QM := PM.out.below b
  have YN := XN.out.reads b; have QN := PN.out.below b
  have YA := XA.out.reads b; have QA := PA.out.below b
  have YB := XB.out.reads b; have QB := PB.out.below b
  have YO := XO.out.reads b; have QO := PO.out.below b
  have YX := XX.out.reads b; have QX := PX.out.below b
  have HB1 := HB.out.trans (b.mono HB.out.size)
  clear HB XL PL XM PM XN PN XA PA XB PB XO PO XX PX b
  have XL := Lib.hid YL; have PL := Lib.hid QL
  have XM := Lib.hid YM; have PM := Lib.hid QM
  have XN := Lib.hid YN; have PN := Lib.hid QN
  have XA := Lib.hid YA; have PA := Lib.hid QA
  have XB := Lib.hid YB; have PB := Lib.hid QB
  have XO := Lib.hid YO; have PO := Lib.hid QO
  have XX := Lib.hid YX; have PX := Lib.hid QX
  have HB := Lib.hid HB1
  clear HB1 YL QL YM QM YN QN YA QA YB QB YO QO YX QX
  have dX0 := XX.out.cell 0
  have dX1 := XX.out.cell 1
  have dX2 := XX.out.cell 2
  have dM0 := XM.out.cell 0
  have dM1 := XM.out.cell 1
  have dM2 := XM.out.cell 2
  simp only [List.getElem?_toArray, List.getElem?_cons_zero, List.getElem?_cons_succ] at dX0 dX1 dX2 dM0 dM1 dM2
  go_wp2_with fail
  refine (fx_same _ _ _ _ _ PX.out PM.out).mono ?_; rintro e W16 ⟨rfl, b⟩
  clear dX0 dX1 dX2 dM0 dM1 dM2
  have YL := XL.out.reads b; have QL := PL.out.below b
  have YM := XM.out.reads b; have QM := PM.out.below b
  have YN := XN.out.reads b; have QN := PN.out.below b
  have YA := XA.out.reads b; have QA := PA.out.below b
  have YB := XB.out.reads b; have QB := PB.out.below b
  have YO := XO.out.reads b; have QO := PO.out.below b
  have YX := XX.out.reads b; have QX := PX.out.below b
  have HB1 := HB.out.trans (b.mono HB.out.size)
  clear HB XL PL XM PM XN PN XA PA XB PB XO PO XX PX b
  have XL := Lib.hid YL; have PL := Lib.hid QL
  have XM := Lib.hid YM; have PM := Lib.hid QM
  have XN := Lib.hid YN; have PN := Lib.hid QN
  have XA := Lib.hid YA; have PA := Lib.hid QA
  have XB := Lib.hid YB; have PB := Lib.hid QB
  have XO := Lib.hid YO; have PO := Lib.hid QO
  have XX := Lib.hid YX; have PX := Lib.hid QX
  have HB := Lib.hid HB1
  clear HB1 YL QL YM QM YN QN YA QA YB QB YO QO YX QX
  have dM0 := XM.out.cell 0
  have dM1 := XM.out.cell 1
  have dM2 := XM.out.cell 2
  simp only [List.getElem?_toArray, List.getElem?_cons_zero, List.getElem?_cons_succ] at dM0 dM1 dM2
  go_wp2_with fail
  refine (fx_size _ _ _ PM.out).mono ?_; rintro e W17 ⟨rfl, b⟩
  clear dM0 dM1 dM2
  have YL := XL.out.reads b; have QL := PL.out.below b
  have YM := XM.out.reads b; have QM := PM.out.below b
  have YN := XN.out.reads b; have QN := PN.out.below b
  have YA := XA.out.reads b; have QA := PA.out.below b
  have YB := XB.out.reads b; have QB := PB.out.below b
  have YO := XO.out.reads b; have QO := PO.out.below b
  have YX := XX.out.reads b; have QX := PX.out.below b
  have HB1 := HB.out.trans (b.mono HB.out.size)
  clear HB XL PL XM PM XN PN XA PA XB PB XO PO XX PX b
  have XL := Lib.hid YL; have PL := Lib.hid QL
  have XM := Lib.hid YM; have PM := Lib.hid QM
  have XN := Lib.hid YN; have PN := Lib.hid QN
  have XA := Lib.hid YA; have PA := Lib.hid QA
  have XB := Lib.hid YB; have PB := Lib.hid QB
  have XO := Lib.hid YO; have PO := Lib.hid QO
  have XX := Lib.hid YX; have PX := Lib.hid QX
  have HB := Lib.hid HB1
  clear HB1 YL QL YM QM YN QN YA QA YB QB YO QO YX QX
  have dM0 := XM.out.cell 0
  have dM1 := XM.out.cell 1
  have dM2 := XM.out.cell 2
  simp only [List.getElem?_toArray, List.getElem?_cons_zero, List.getElem?_cons_succ] at dM0 dM1 dM2
  go_wp2_with fail
  refine (fx_right _ _ _ PM.out).mono ?_; rintro e W18 ⟨rfl, b⟩
  clear dM0 dM1 dM2
  have YL := XL.out.reads b; have QL := PL.out.below b
  have YM := XM.out.reads b; have QM := PM.out.below b
  have YN := XN.out.reads b; have QN := PN.out.below b
  have YA := XA.out.reads b; have QA := PA.out.below b
  have YB := XB.out.reads b; have QB := PB.out.below b
  have YO := XO.out.reads b; have QO := PO.out.below b
  have YX := XX.out.reads b; have QX := PX.out.below b
  have HB1 := HB.out.trans (b.mono HB.out.size)
  clear HB XL PL XM PM XN PN XA PA XB PB XO PO XX PX b
  have XL := Lib.hid YL; have PL := Lib.hid QL
  have XM := Lib.hid YM; have PM := Lib.hid QM
  have XN := Lib.hid YN; have PN := Lib.hid QN
  have XA := Lib.hid YA; have PA := Lib.hid QA
  have XB := Lib.hid YB; have PB := Lib.hid QB
  have XO := Lib.hid YO; have PO := Lib.hid QO
  have XX := Lib.hid YX; have PX := Lib.hid QX
  have HB := Lib.hid HB1
  clear HB1 YL QL YM QM YN QN YA QA YB QB YO QO YX QX
  go_wp2_with fail
  refine (fx_wrong _).mono ?_; rintro e W19 ⟨rfl, b⟩
  have YL := XL.out.reads b; have QL := PL.out.below b
  have YM := XM.out.reads b; have QM := PM.out.below b
  have YN := XN.out.reads b; have QN := PN.out.below b
  have YA := XA.out.reads b; have QA := PA.out.below b
  have YB := XB.out.reads b; have QB := PB.out.below b
  have YO := XO.out.reads b; have QO := PO.out.below b
  have YX := XX.out.reads b; have QX := PX.out.below b
  have HB1 := HB.out.trans (b.mono HB.out.size)
  clear HB XL PL XM PM XN PN XA PA XB PB XO PO XX PX b
  have XL := Lib.hid YL; have PL := Lib.hid QL
  have XM := Lib.hid YM; have PM := Lib.hid QM
  have XN := Lib.hid YN; have PN := Lib.hid QN
  have XA := Lib.hid YA; have PA := Lib.hid QA
  have XB := Lib.hid YB; have PB := Lib.hid QB
  have XO := Lib.hid YO; have PO := Lib.hid QO
  have XX := Lib.hid YX; have PX := Lib.hid QX
  have HB := Lib.hid HB1
  clear HB1 YL QL YM QM YN QN YA QA YB QB YO QO YX QX
  go_wp2_with fail
  go_ret
  exact ⟨rfl, HB.out⟩
end Go.Proofs.Ytajbnfobmnibjaa
