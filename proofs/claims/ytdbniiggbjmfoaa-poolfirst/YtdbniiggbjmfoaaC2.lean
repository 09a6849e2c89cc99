/-
  Plain facts on pages (252 bytes and their sum): no program in this text.
-/
import Derived.Test.YtdbniiggbjmfoaaC1
import Derived.Test.YtdbniiggbjmfoaaM2
import Derived.Test.YtdbniiggbjmfoaaB1
namespace Go.Proofs.Ytdbniiggbjmfoaa

/-- the page that bytes are -/
def pageOf (s : ByteArray) : ByteArray := ⟨((padOf s 252).data.toList ++ Lib.leBytes 4 (crcOf (padOf s 252).data.toList)).toArray⟩
/-- are the last four bytes of 256 the sum of the others? -/
def okPage (p : ByteArray) : Bool := decide (Lib.leNat ((p.data.toList.drop 252).take 4) = crcOf (p.extract 0 252).data.toList)
def tornOf (a b : ByteArray) : ByteArray := a.extract 0 128 ++ b.extract 128 b.size

theorem padOf_list (s : ByteArray) (n : Nat) : (padOf s n).data.toList = s.data.toList ++ List.replicate (n - s.size) 0 := rfl
theorem pageOf_list (s : ByteArray) : (pageOf s).data.toList = (padOf s 252).data.toList ++ Lib.leBytes 4 (crcOf (padOf s 252).data.toList) := rfl
theorem padOf_len (s : ByteArray) (h : s.size ≤ 252) : (padOf s 252).data.toList.length = 252 := by rw [← Lib.size_eq]; exact padOf_size s 252 h
theorem pageOf_size (s : ByteArray) (h : s.size ≤ 252) : (pageOf s).size = 256 := by
  rw [Lib.size_eq, pageOf_list, List.length_append, Lib.leBytes_length, padOf_len s h]
theorem extract_list (s : ByteArray) (a b : Nat) : (s.extract a b).data.toList = (s.data.toList.drop a).take (b - a) := Lib.extract_data s a b
theorem pageOf_extract (s : ByteArray) (h : s.size ≤ 252) : (pageOf s).extract 0 252 = padOf s 252 := by
  apply ba_ext
  rw [extract_list, List.drop_zero, Nat.sub_zero, pageOf_list, List.take_left' (padOf_len s h)]
theorem pageOf_drop (s : ByteArray) (h : s.size ≤ 252) : (pageOf s).data.toList.drop 252 = Lib.leBytes 4 (crcOf (padOf s 252).data.toList) := by
  rw [pageOf_list, List.drop_left' (padOf_len s h)]
theorem okPage_pageOf (s : ByteArray) (h : s.size ≤ 252) : okPage (pageOf s) = true := by
  unfold okPage
  rw [decide_eq_true_iff, pageOf_extract s h, pageOf_drop s h, List.take_of_length_le (by rw [Lib.leBytes_length]; omega), Lib.leNat_leBytes _ _ (by have := crcOf_lt (padOf s 252).data.toList; omega)]
theorem padOf_full (s : ByteArray) (n : Nat) (h : s.size = n) : padOf s n = s := by
  apply ba_ext
  rw [padOf_list, h, Nat.sub_self]; simp
theorem padOf_padOf (s : ByteArray) (h : s.size ≤ 252) : padOf (padOf s 252) 252 = padOf s 252 := padOf_full _ _ (padOf_size s 252 h)
theorem pageOf_padOf (s : ByteArray) (h : s.size ≤ 252) : pageOf (padOf s 252) = pageOf s := by
  unfold pageOf; rw [padOf_padOf s h]
theorem leNat_inj : ∀ (l m : List UInt8), l.length = m.length → Lib.leNat l = Lib.leNat m → l = m
  | [], [], _, _ => rfl
  | [], _ :: _, h, _ => by simp at h
  | _ :: _, [], h, _ => by simp at h
  | a :: l, b :: m, h, e => by
    simp only [Lib.leNat] at e
    have ha := a.toNat_lt; have hb := b.toNat_lt
    have e1 : a.toNat = b.toNat := by omega
    have e2 : Lib.leNat l = Lib.leNat m := by omega
    rw [UInt8.toNat_inj.1 e1, leNat_inj l m (by simpa using h) e2]
/-- what is a page is the page of its bytes -/
theorem page_back (p : ByteArray) (h : p.size = 256) : okPage p = true ↔ pageOf (p.extract 0 252) = p := by
  have hx : (p.extract 0 252).size = 252 := by rw [ByteArray.size_extract]; omega
  constructor
  · intro ho
    unfold okPage at ho
    rw [decide_eq_true_iff] at ho
    apply ba_ext
    rw [pageOf_list, padOf_full _ _ hx]
    have hd : (p.data.toList.drop 252).length = 4 := by rw [List.length_drop, ← Lib.size_eq, h]
    rw [List.take_of_length_le (by omega)] at ho
    have e : Lib.leBytes 4 (crcOf (p.extract 0 252).data.toList) = p.data.toList.drop 252 := by
      apply leNat_inj
      · rw [Lib.leBytes_length, hd]
      · rw [Lib.leNat_leBytes _ _ (by have := crcOf_lt (p.extract 0 252).data.toList; omega), ho]
    rw [e, extract_list, List.drop_zero, Nat.sub_zero, List.take_append_drop]
  · intro ho
    rw [← ho]; exact okPage_pageOf _ (by omega)
/-- a page of which one byte is another one is none -/
theorem okPage_set (s : ByteArray) (h : s.size ≤ 252) (p : ByteArray) (k : Nat) (b : UInt8) (hk : k < 256) (hp : p.data.toList = (pageOf s).data.toList.set k b) (hb : (pageOf s).data.toList[k]? ≠ some b) : okPage p = false := by
  unfold okPage
  rw [decide_eq_false_iff_not]
  have hl := padOf_len s h
  have hc := crcOf_lt (padOf s 252).data.toList
  rw [extract_list, List.drop_zero, Nat.sub_zero, hp, pageOf_list]
  rw [pageOf_list] at hb
  generalize (padOf s 252).data.toList = l at *
  by_cases h1 : k < 252
  · rw [List.set_append_left _ _ (by omega), List.drop_left' (by rw [List.length_set]; exact hl), List.take_left' (by rw [List.length_set]; exact hl),
      List.take_of_length_le (by rw [Lib.leBytes_length]; omega), Lib.leNat_leBytes _ _ (by omega)]
    rw [List.getElem?_append_left (by omega), List.getElem?_eq_getElem (by omega)] at hb
    exact fun e => crcOf_set l k b (by omega) (fun e => hb (by rw [e])) e.symm
  · rw [List.set_append_right _ _ (by omega), List.drop_left' hl, List.take_left' hl, List.take_of_length_le (by rw [List.length_set, Lib.leBytes_length]; omega), hl]
    rw [List.getElem?_append_right (by omega), hl] at hb
    intro e
    have e2 : Lib.leNat ((Lib.leBytes 4 (crcOf l)).set (k - 252) b) = Lib.leNat (Lib.leBytes 4 (crcOf l)) := by rw [e, Lib.leNat_leBytes _ _ (by omega)]
    have e3 := leNat_inj _ _ (by rw [List.length_set]) e2
    apply hb
    rw [← e3, List.getElem?_set_self (by rw [Lib.leBytes_length]; omega)]
theorem splice_page (l m : List UInt8) (hl : l.length = 252) (hm : m.length = 4) : spliceB (l ++ [0, 0, 0, 0]) 252 m = l ++ m := by
  unfold spliceB
  rw [List.take_left' hl, List.drop_eq_nil_of_le (by rw [List.length_append, hl, hm]; simp)]; simp
end Go.Proofs.Ytdbniiggbjmfoaa
