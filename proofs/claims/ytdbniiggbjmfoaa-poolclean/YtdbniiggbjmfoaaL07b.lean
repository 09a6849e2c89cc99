/-
  PoolFirst: no page of the disk has what a record changed whose number is not sure. The plain part, and num.
-/
import Derived.Test.YtdbniiggbjmfoaaA07
namespace Go.Proofs.Ytdbniiggbjmfoaa
open Go.RowKit Go.MapKept

/-- the number that a page has -/
def numB (b : ByteArray) : Nat := Lib.leNat ((b.data.toList.drop 0).take 8)
structure FI (S : List ByteArray) (Ws : Wrs) (p : PoolP) : Prop where
  s0 : 0 ≤ p.sure
  mem : ∀ a ∈ p.L, a.dirty = true → (numB a.body : Int) ≤ a.last
  dsk : ∀ k, k < S.length → (numB (bodyAt S Ws k) : Int) ≤ p.sure
section
variable {S : List ByteArray} {Ws : Wrs} {p : PoolP}
theorem fi_pin (h : PI S Ws p) (f : FI S Ws p) (x : Int) : FI S (pinW S Ws p x) (pinL S Ws p x) := by
  cases pinWay h.I Ws x with
  | arg hx => obtain ⟨_, _, e3, e4⟩ := pin_arg (p := p) (Ws := Ws) hx; rw [e3, e4]; exact f
  | held a ha hx hk =>
    subst hx
    obtain ⟨_, _, e3, e4⟩ := pin_held (S := S) (Ws := Ws) h.I.nd ha hk
    rw [e3, e4]
    refine ⟨f.s0, fun b hb hd => ?_, f.dsk⟩
    rcases List.mem_append.1 hb with hb | hb
    · exact f.mem b (mem_cutP.1 hb).1 hd
    · obtain rfl := List.mem_singleton.1 hb
      exact f.mem a ha hd
  | room k hx hk hno hn =>
    subst hx
    obtain ⟨_, _, e3, e4⟩ := pin_room (S := S) (Ws := Ws) hk hno hn
    rw [e3, e4]
    refine ⟨f.s0, fun b hb hd => ?_, f.dsk⟩
    rcases List.mem_append.1 hb with hb | hb
    · exact f.mem b hb hd
    · obtain rfl := List.mem_singleton.1 hb
      cases hd
  | full k hx hk hno hn hg => subst hx; obtain ⟨_, _, e3, e4⟩ := pin_full (S := S) (Ws := Ws) hk hno hn hg; rw [e3, e4]; exact f
  | swap k hx hk hno hn a ha =>
    subst hx
    obtain ⟨_, _, e3, e4⟩ := pin_swap (S := S) (Ws := Ws) hk hno hn ha
    have haL : a ∈ p.L := List.mem_of_find?_eq_some ha
    rw [e3, e4]
    refine ⟨f.s0, fun b hb hd => ?_, fun k' hk' => ?_⟩
    · rcases List.mem_append.1 hb with hb | hb
      · exact f.mem b (mem_cutP.1 hb).1 hd
      · obtain rfl := List.mem_singleton.1 hb
        cases hd
    · cases hd : a.dirty with
      | false => simp only [Bool.false_eq_true, if_false, List.append_nil]; exact f.dsk k' hk'
      | true =>
        simp only [if_true]
        rw [bodyAt_write S Ws _ _ _ (h.I.pg a haL) (h.I.bs a haL)]
        split
        · have h1 := f.mem a haL hd
          have h2 := goes_may (List.find?_some ha) hd
          show (numB a.body : Int) ≤ p.sure
          omega
        · exact f.dsk k' hk'
theorem fi_un (f : FI S Ws p) (x : Int) : FI S Ws (unL p x) := by
  unfold unL; split
  · refine ⟨f.s0, fun b hb hd => ?_, f.dsk⟩
    rcases mem_updP hb with ⟨hb, _⟩ | ⟨a, ha, _, rfl⟩
    · exact f.mem b hb hd
    · exact f.mem a ha hd
  · exact f
theorem fi_put (f : FI S Ws p) (x : Int) (s : ByteArray) (l : Int) (hn : 1 ≤ l → (numB (padOf s 252) : Int) ≤ l) : FI S Ws (putL p x s l) := by
  unfold putL; split
  · rename_i he
    obtain ⟨_, _, _, _, hl, _⟩ := putE_ok he
    refine ⟨f.s0, fun b hb hd => ?_, f.dsk⟩
    rcases mem_updP hb with ⟨hb, _⟩ | ⟨a, ha, _, rfl⟩
    · exact f.mem b hb hd
    · exact hn hl
  · exact f
theorem fi_sure (f : FI S Ws p) (l : Int) : FI S Ws (sureL p l) :=
  ⟨by have := f.s0; show 0 ≤ max p.sure l; omega, f.mem, fun k hk => by have := f.dsk k hk; show _ ≤ max p.sure l; omega⟩
theorem fi_clean (h : PI S Ws p) (f : FI S Ws p) : FI S (cleanW Ws p) (cleanL p) := by
  refine ⟨f.s0, fun b hb hd => ?_, fun k hk => ?_⟩
  · obtain ⟨a, ha, rfl⟩ := List.mem_map.1 hb
    by_cases hm : (a.page : Int) ∈ cleanI p.L p.sure
    · rw [if_pos hm] at hd; cases hd
    · rw [if_neg hm] at hd ⊢; exact f.mem a ha hd
  · rw [body_clean h]
    by_cases hm : (k : Int) ∈ cleanI p.L p.sure
    · rw [if_pos hm]
      obtain ⟨a, ha, e, hmay⟩ := (mem_cleanI h.I.nd).1 hm
      rw [← e, findP_mem h.I.nd ha]
      have hd : a.dirty = true ∧ a.last ≤ p.sure := by unfold Pl.may at hmay; simpa using hmay
      have := f.mem a ha hd.1
      show (numB a.body : Int) ≤ p.sure
      omega
    · rw [if_neg hm]; exact f.dsk k hk
end
/-- a number as eight bytes -/
def numS (n : Int) : ByteArray := ⟨(Lib.leBytes 8 (n % 18446744073709551616).toNat).toArray⟩
theorem numS_size (n : Int) : (numS n).size = 8 := by
  rw [Lib.size_eq]; unfold numS; simp [Lib.leBytes_length]
theorem numS_num (n : Int) (h1 : 1 ≤ n) (h2 : n ≤ 9223372036854775807) : (numB (padOf (numS n) 252) : Int) = n := by
  have e0 : (padOf (numS n) 252).data.toList = (Lib.leBytes 8 (n % 18446744073709551616).toNat) ++ List.replicate (252 - (numS n).size) 0 := rfl
  have hl : (Lib.leBytes 8 (n % 18446744073709551616).toNat).length = 8 := Lib.leBytes_length _ _
  have hb : (n % 18446744073709551616).toNat < 256 ^ 8 := by
    have e1 : (256 : Nat) ^ 8 = 18446744073709551616 := by decide
    rw [e1]; omega
  unfold numB
  rw [e0, List.drop_zero, List.take_append_of_le_length (by omega), List.take_of_length_le (by omega), Lib.leNat_leBytes _ _ hb]
  omega
theorem numB_blank : numB (padOf ⟨#[]⟩ 252) = 0 := by decide
set_option maxRecDepth 100000 in
theorem num_any (n : Int) (w : World) : Calls Try.prog 12 #[.int .i64 n] w fun e w' => e = .returned (.string (numS n)) ∧ Below w.heap.size w w' := by
  have hv : (n % 18446744073709551616).toNat < 18446744073709551616 := by omega
  have C := rput_ok ⟨#[32, 32, 32, 32, 32, 32, 32, 32]⟩ 0 8 (n % 18446744073709551616).toNat w (by decide) (by decide) hv (by simpa using hv)
  have e1 : (⟨(spliceB (⟨#[32, 32, 32, 32, 32, 32, 32, 32]⟩ : ByteArray).data.toList (0 : Int).toNat (Lib.leBytes (8 : Int).toNat (n % 18446744073709551616).toNat)).toArray⟩ : ByteArray) = numS n := by
    unfold numS
    have := spliceB_whole (⟨#[32, 32, 32, 32, 32, 32, 32, 32]⟩ : ByteArray).data.toList (Lib.leBytes 8 (n % 18446744073709551616).toNat) (by rw [Lib.leBytes_length]; decide)
    exact congrArg (fun l : List UInt8 => (⟨l.toArray⟩ : ByteArray)) this
  rw [e1] at C
  have e2 : (((n % 18446744073709551616).toNat : Nat) : Int) = n % 18446744073709551616 := by omega
  rw [e2] at C
  have HC := Lib.hid C
  clear C e1 e2 hv
  go_enter Try.func12, Try.ntmps12
  go_wp2_with fail
  refine HC.out.mono ?_; rintro e w2 ⟨rfl, b2⟩
  have HB := Lib.hid b2
  clear b2 HC
  go_wp2_with fail
  go_ret
  exact ⟨rfl, HB.out⟩
end Go.Proofs.Ytdbniiggbjmfoaa
