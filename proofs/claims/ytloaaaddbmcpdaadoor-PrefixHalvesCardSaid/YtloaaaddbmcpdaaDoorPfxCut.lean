/- strings.Cut at a slash. -/
import Derived.Test.YtloaaaddbmcpdaaDoorPow
import Derived.Test.YtloaaaddbmcpdaaDoorPfxMath
import Derived.Lib.IndexLaws
namespace Go.Proofs.YtloaaaddbmcpdaaDoor
open Go.RowKit
set_option linter.unusedVariables false
set_option linter.unusedSimpArgs false

set_option maxRecDepth 100000 in
theorem index_slash (s : ByteArray) (w : World) (hs : s.size ≤ maxLen) :
    Calls Tryd.prog 53 #[.string s, .string ⟨#[47]⟩] w fun e w' => e = .returned (.int .i64 (Lib.indexByte s.data.toList 47)) ∧ w = w' := by
  unfold maxLen at hs
  have c : ∀ w, Calls Tryd.prog 58 #[.string s, .int .u8 47] w fun e w' => e = .returned (.int .i64 (Lib.indexByte s.data.toList 47)) ∧ w' = w := fun w => stringslite_IndexByte s 47 w
  have C := Lib.hid c
  clear c
  by_cases he : s = ⟨#[47]⟩
  · subst he
    have HI : Hid (Lib.indexByte (⟨#[47]⟩ : ByteArray).data.toList 47 = 0) := by show Lib.indexByte [47] 47 = 0; decide
    go_enter Tryd.func53, Tryd.ntmps53
    go_wp2_with fail
    go_ret
    exact ⟨by rw [HI.out]; rfl, rfl⟩
  · have t1 : ([47] == s.toList) = false := by
      rw [ByteArray.toList_eq, beq_eq_false_iff_ne]
      exact fun e => he (ByteArray.ext (Array.toList_inj.1 e.symm))
    clear he
    go_enter Tryd.func53, Tryd.ntmps53
    go_wp2_with fail
    refine (C.out w).mono ?_
    rintro e w1 ⟨rfl, rfl⟩
    go_wp2_with fail
    go_ret
    exact ⟨rfl, rfl⟩
theorem extract_take (s : ByteArray) (k : Nat) : (s.extract 0 k).data.toList = s.data.toList.take k := by simp [List.extract_eq_take_drop]
theorem extract_drop (s : ByteArray) (k : Nat) : (s.extract k s.size).data.toList = s.data.toList.drop k := by
  have h : s.data.toList.length = s.size := rfl
  simp only [ByteArray.data_extract, Array.toList_extract, List.extract_eq_take_drop]
  exact List.take_of_length_le (by rw [List.length_drop, h]; exact Nat.le_refl _)
/-- where the first slash stands -/
theorem slash_at (l : List UInt8) : (Lib.indexByte l 47 = -1 ∧ headS l = l ∧ tailS l = []) ∨ ∃ k : Nat, k < l.length ∧ Lib.indexByte l 47 = (k : Int) ∧ headS l = l.take k ∧ tailS l = l.drop (k + 1) := by
  rcases slash_cases l with h | ⟨x, r, h, rfl⟩
  · left
    refine ⟨?_, (cut_no l h).1, (cut_no l h).2⟩
    have hg := Lib.indexByte_ge l 47
    by_cases hz : Lib.indexByte l 47 = -1
    · exact hz
    · obtain ⟨o, ho⟩ : ∃ o : Nat, Lib.indexByte l 47 = o := ⟨(Lib.indexByte l 47).toNat, by omega⟩
      have := (Lib.indexByte_some ho).1
      exact absurd (List.mem_of_getElem? this) h
  · right
    have hat : (x ++ 47 :: r)[x.length]? = some 47 := by simp
    have hz : Lib.indexByte (x ++ 47 :: r) 47 ≠ -1 := fun e => Lib.indexByte_none e _ hat
    have hg := Lib.indexByte_ge (x ++ 47 :: r) 47
    obtain ⟨o, ho⟩ : ∃ o : Nat, Lib.indexByte (x ++ 47 :: r) 47 = o := ⟨(Lib.indexByte (x ++ 47 :: r) 47).toNat, by omega⟩
    obtain ⟨h1, h2⟩ := Lib.indexByte_some ho
    have e : o = x.length := by
      rcases Nat.lt_trichotomy o x.length with g | g | g
      · rw [List.getElem?_append_left g] at h1
        exact absurd (List.mem_of_getElem? h1) h
      · exact g
      · exact absurd hat (h2 _ g)
    subst e
    obtain ⟨e1, e2⟩ := cut_at x r h
    refine ⟨x.length, by simp, ho, ?_, ?_⟩
    · rw [e1]; simp
    · rw [e2]; simp
theorem cut_slash (s : ByteArray) (w : World) (hs : s.size ≤ maxLen) :
    Calls Tryd.prog 46 #[.string s, .string ⟨#[47]⟩] w fun e w' => ∃ x r : ByteArray, ∃ b : Bool, e = .returned (.tuple #[.string x, .string r, .bool b]) ∧ x.data.toList = headS s.data.toList ∧ r.data.toList = tailS s.data.toList ∧ Below w.heap.size w w' := by
  have C := Lib.hid (fun w => index_slash s w hs)
  unfold maxLen at hs
  rcases slash_at s.data.toList with ⟨h1, h2, h3⟩ | ⟨k, hk, h1, h2, h3⟩
  · rw [h1] at C
    have H2 := Lib.hid h2
    have H3 := Lib.hid h3
    clear h1 h2 h3
    go_enter Tryd.func46, Tryd.ntmps46
    go_wp2_with fail
    refine (C.out w).mono ?_
    rintro e w1 ⟨rfl, rfl⟩
    go_wp2_with fail
    go_ret3
    exact ⟨s, ⟨#[]⟩, false, rfl, H2.out.symm, H3.out.symm, Below.refl _ _⟩
  · rw [h1] at C
    rw [← extract_take] at h2
    rw [← extract_drop] at h3
    have H2 := Lib.hid h2
    have H3 := Lib.hid h3
    have hk2 : k < s.size := hk
    clear h1 h2 h3 hk
    go_enter Tryd.func46, Tryd.ntmps46
    go_wp2_with fail
    refine (C.out w).mono ?_
    rintro e w1 ⟨rfl, rfl⟩
    go_wp2_with fail
    go_quiet (fail)
    go_wp2_with fail
    go_ret3
    exact ⟨s.extract 0 k, s.extract (k + 1) s.size, true, rfl, H2.out.symm, H3.out.symm, drewN_below (Below.refl _ _) _⟩
theorem cut_any (s : ByteArray) (w : World) (hs : s.size ≤ maxLen) :
    Calls Tryd.prog 34 #[.string s, .string ⟨#[47]⟩] w fun e w' => ∃ x r : ByteArray, ∃ b : Bool, e = .returned (.tuple #[.string x, .string r, .bool b]) ∧ x.data.toList = headS s.data.toList ∧ r.data.toList = tailS s.data.toList ∧ Below w.heap.size w w' := by
  have C := Lib.hid (fun w => cut_slash s w hs)
  go_enter Tryd.func34, Tryd.ntmps34
  go_wp2_with fail
  refine (C.out w).mono ?_
  rintro e w1 ⟨x, r, b, rfl, h1, h2, hb⟩
  have H1 := Lib.hid h1
  have H2 := Lib.hid h2
  have HB := Lib.hid hb
  clear h1 h2 hb
  go_wp2_with fail
  go_ret3
  exact ⟨x, r, b, rfl, H1.out, H2.out, HB.out⟩
end Go.Proofs.YtloaaaddbmcpdaaDoor
