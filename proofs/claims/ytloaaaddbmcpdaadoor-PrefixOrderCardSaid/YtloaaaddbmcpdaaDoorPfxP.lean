/- Contracts of package prefix: Print, Parse. -/
import Derived.Test.YtloaaaddbmcpdaaDoorPfx
import Derived.Test.YtloaaaddbmcpdaaDoorPfxCut
import Derived.Test.YtloaaaddbmcpdaaDoorParse
import Derived.Test.YtloaaaddbmcpdaaDoorRef05
import Derived.Lib.ItoaLen
namespace Go.Proofs.YtloaaaddbmcpdaaDoor
open Go.RowKit
set_option linter.unusedVariables false
set_option linter.unusedSimpArgs false

theorem itoa_small (k : Nat) (w : World) (hk : k < 100) : Calls Tryd.prog 32 #[.int .i64 k] w fun e w' => e = .returned (.string ⟨(dec k).toArray⟩) ∧ w = w' := by
  refine (strconv_Itoa_small k hk w).mono ?_
  rintro e w' ⟨rfl, rfl⟩
  exact ⟨rfl, rfl⟩
/-- a number that an int may be -/
def I64 (n : Int) : Prop := -9223372036854775808 ≤ n ∧ n ≤ 9223372036854775807
theorem itoa_int (n : Int) (w : World) (hn : Hid (I64 n)) (ht : Hid (Tab w)) :
    Calls Tryd.prog 32 #[.int .i64 n] w fun e w' => e = .returned (.string ⟨(Lib.itoa n).toArray⟩) ∧ Below w.heap.size w w' := by
  refine (strconv_Itoa n hn.out.1 hn.out.2 w ht.out).mono ?_
  rintro e w' ⟨rfl, k, os, rfl⟩
  exact ⟨rfl, Lib.below_grow _ _ (Nat.le_refl _) _ _⟩
theorem pprint_any (a : Nat) (n : Int) (w : World) (ha : (a : Int) ≤ 4294967295) (hn : Hid (I64 n)) (ht : Hid (Tab w)) :
    Calls Tryd.prog 20 #[.int .u32 a, .int .i64 n] w fun e w' => e = .returned (.string ⟨(txt a ++ 47 :: Lib.itoa n).toArray⟩) ∧ Below w.heap.size w w' := by
  have c := print_any a w ha ht
  obtain ⟨d, hd⟩ : ∃ d : ByteArray, ⟨(txt a).toArray⟩ = d := ⟨_, rfl⟩
  have hds : d.size ≤ 15 := by rw [← hd, size_of]; exact txt_le a
  rw [hd] at c
  have c2 := fun w ht => itoa_int n w hn ht
  obtain ⟨f, hf⟩ : ∃ f : ByteArray, ⟨(Lib.itoa n).toArray⟩ = f := ⟨_, rfl⟩
  have hfs : f.size ≤ 21 := by rw [← hf, size_of]; exact Lib.itoa_length_le n hn.out.1 hn.out.2
  rw [hf] at c2
  have HE : Hid (d ++ ⟨#[47]⟩ ++ f = ⟨(txt a ++ 47 :: Lib.itoa n).toArray⟩) := by
    show _ = _
    rw [← hd, ← hf, show (⟨#[47]⟩ : ByteArray) = ⟨[47].toArray⟩ from rfl, ba_app, ba_app]
    simp
  have C := Lib.hid c
  have C2 := Lib.hid c2
  clear c c2 hd hf
  go_enter Tryd.func20, Tryd.ntmps20
  go_wp2_with fail
  refine C.out.mono ?_
  rintro e w1 ⟨rfl, hb⟩
  have HT := Lib.hid (ht.out.bel hb)
  have HB := Lib.hid hb
  clear hb
  go_wp2_with fail
  refine (C2.out w1 HT).mono ?_
  rintro e w2 ⟨rfl, hb⟩
  have HB2 := Lib.hid (HB.out.trans (hb.mono HB.out.size))
  clear hb
  go_wp2_with fail
  go_ret
  exact ⟨by rw [← HE.out]; rfl, HB2.out⟩
theorem pprint_small (a k : Nat) (w : World) (ha : (a : Int) ≤ 4294967295) (hk : k < 100) (ht : Hid (Tab w)) :
    Calls Tryd.prog 20 #[.int .u32 a, .int .i64 k] w fun e w' => e = .returned (.string ⟨(txt a ++ 47 :: dec k).toArray⟩) ∧ Below w.heap.size w w' := by
  have h := pprint_any a k w ha (show I64 k from ⟨by omega, by omega⟩) ht
  rw [Lib.itoa_nonneg] at h
  exact h
theorem is_yes (n B : Nat) (t : ByteArray) (w : World) (hn : n < 100) (hc : w.cell? ⟨B, 0, none⟩ = some (.string t)) (h : dec n = t.data.toList) :
    Calls Tryd.prog 37 #[.int .i64 n, .pointer (some ⟨B, 0, none⟩)] w fun e w' => e = .returned (.bool true) ∧ ∃ q, w' = w.drewN q := by
  have ht : (⟨(dec n).toArray⟩ : ByteArray) = t := by rw [h]
  have C : ∀ (w : World) (q : Nat), Calls Tryd.prog 32 #[.int .i64 n] (w.drewN q) fun e w' => e = .returned (.string t) ∧ w' = w.drewN q := fun w q => by
    rw [← ht]
    exact (itoa_small n _ hn).mono fun e w' ⟨h1, h2⟩ => ⟨h1, h2.symm⟩
  have K := Lib.hid C
  clear h ht C
  go_enter Tryd.func37, Tryd.ntmps37
  go_wp2_with fail
  go_quiet ((go_at_call 32; with_reducible exact Calls.quiet_of_same (K.out _ _)))
  go_wp2_with fail
  go_ret
  exact ⟨rfl, _, rfl⟩
theorem is_no (n B : Nat) (t : ByteArray) (w : World) (hn : n < 100) (hc : w.cell? ⟨B, 0, none⟩ = some (.string t)) (h : dec n ≠ t.data.toList) :
    Calls Tryd.prog 37 #[.int .i64 n, .pointer (some ⟨B, 0, none⟩)] w fun e w' => e = .returned (.bool false) ∧ ∃ q, w' = w.drewN q := by
  obtain ⟨f, hf⟩ : ∃ f : ByteArray, ⟨(dec n).toArray⟩ = f := ⟨_, rfl⟩
  have t1 := str_ne (d := f) (s := t) (fun e => h (by rw [← e, ← hf]))
  have C : ∀ (w : World) (q : Nat), Calls Tryd.prog 32 #[.int .i64 n] (w.drewN q) fun e w' => e = .returned (.string f) ∧ w' = w.drewN q := fun w q => by
    rw [← hf]
    exact (itoa_small n _ hn).mono fun e w' ⟨h1, h2⟩ => ⟨h1, h2.symm⟩
  have K := Lib.hid C
  clear h hf C
  go_enter Tryd.func37, Tryd.ntmps37
  go_wp2_with fail
  go_quiet ((go_at_call 32; with_reducible exact Calls.quiet_of_same (K.out _ _)))
  go_wp2_with fail
  go_ret
  exact ⟨rfl, _, rfl⟩
theorem lowest_any (B : Nat) (t : ByteArray) (w : World) (hc : w.cell? ⟨B, 0, none⟩ = some (.string t)) :
    Calls Tryd.prog 36 #[.func (.func 37) #[] #[.pointer (some ⟨B, 0, none⟩)]] w fun e w' => e = .returned (.int .i64 (lenOf t.data.toList : Int)) ∧ Below w.heap.size w w' := by
  have HC := Lib.hid hc
  clear hc
  go_enter Tryd.func36, Tryd.ntmps36
  go_wp2_with fail
  go_loopw [3] (fun i wr => ∃ k q : Nat, (k : Int) ≤ 33 ∧ i = .int .i64 k ∧ wr = w.drewN q ∧ Hid (∀ j, j < k → dec j ≠ t.data.toList)) (fun i _ => 33 - (intOf i).toNat)
  case atStart => exact ⟨0, 0, by omega, rfl, rfl, fun j hj => absurd hj (Nat.not_lt_zero j)⟩
  case round =>
    obtain ⟨k, q, hk, rfl, rfl, HK⟩ := hrel
    by_cases hlt : (k : Int) ≤ 32
    · by_cases he : dec k = t.data.toList
      · have HE : Hid (lenOf t.data.toList = k) := by show _ = _; rw [← he]; exact len_yes k (by omega)
        have K := Lib.hid (is_yes k B t (w.drewN q) (by omega) HC.out he)
        clear he
        go_wp2_with fail
        refine K.out.mono ?_
        rintro e w1 ⟨rfl, q1, rfl⟩
        go_wp2_with fail
        go_ret
        exact ⟨by rw [HE.out]; rfl, drewN_below (Below.refl _ _) _⟩
      · have HN : Hid (∀ j, j < k + 1 → dec j ≠ t.data.toList) := fun j hj => by
          rcases Nat.lt_or_ge j k with h | h
          · exact HK.out j h
          · rw [show j = k by omega]
            exact he
        have K := Lib.hid (is_no k B t (w.drewN q) (by omega) HC.out he)
        clear he
        go_wp2_with fail
        refine K.out.mono ?_
        rintro e w1 ⟨rfl, q1, rfl⟩
        go_wp2_with fail
        go_roundw
        case rel => exact ⟨k + 1, q + q1, by omega, by go_num, rfl, HN⟩
        case measure => simp [intOf]; omega
    · obtain rfl : k = 33 := by omega
      have HE : Hid (lenOf t.data.toList = 33) := len_no _ fun j hj => HK.out j (by omega)
      go_wp2_with fail
      go_ret
      exact ⟨by rw [HE.out]; rfl, drewN_below (Below.refl _ _) _⟩
theorem head_len (l : List UInt8) : (headS l).length ≤ l.length := (List.takeWhile_sublist _).length_le
set_option maxHeartbeats 1000000 in
theorem pparse_any (s : ByteArray) (w : World) (hs : Hid (s.size ≤ maxLen)) :
    Calls Tryd.prog 22 #[.string s] w fun e w' => e = .returned (.tuple #[.int .u32 ((pfx s.data.toList).1 : Int), .int .i64 ((pfx s.data.toList).2.1 : Int), .int .i64 (pfx s.data.toList).2.2]) ∧ Below w.heap.size w w' := by
  have C := Lib.hid (fun w => cut_any s w hs.out)
  by_cases hq : pe (headS s.data.toList) = 0
  · have hq2 := Lib.hid hq
    obtain ⟨A, hA⟩ : ∃ A, pa (headS s.data.toList) = A := ⟨_, rfl⟩
    have ha : (A : Int) ≤ 4294967295 := by have := pa_lt (headS s.data.toList); omega
    have HA := Lib.hid hA
    clear hA
    obtain ⟨n, hn⟩ : ∃ n, lenOf (tailS s.data.toList) = n := ⟨_, rfl⟩
    have hn2 : n ≤ 33 := by rw [← hn]; exact len_le _
    have HN := Lib.hid hn
    clear hn
    by_cases h33 : n = 33
    · subst h33
      have HP : Hid (pfx s.data.toList = (0, 0, 7)) := by show _ = _; unfold pfx; rw [HN.out, if_neg (by omega)]
      clear hq hn2
      go_enter Tryd.func22, Tryd.ntmps22
      go_wp2_with fail
      refine (C.out w).mono ?_
      rintro e w1 ⟨x, r, b, rfl, hx, hr, hb⟩
      have HX := Lib.hid hx
      have HR := Lib.hid hr
      have HB : Hid (Below w.heap.size w (w1.alloc (.cells #[.string r] 9))) := hb.alloc hb.size _
      have HC : Hid ((w1.alloc (.cells #[.string r] 9)).cell? ⟨w1.heap.size, 0, none⟩ = some (.string r)) := by show _ = _; rw [World.cell?_alloc_mark]; rfl
      have HZ : Hid (x.size ≤ maxLen) := by
        have e1 : x.data.toList.length ≤ s.data.toList.length := by rw [hx]; exact head_len _
        exact Nat.le_trans e1 hs.out
      clear hx hr hb
      go_wp2_with fail
      have c := parse_any x (w1.alloc (.cells #[.string r] 9)) HZ.out
      rw [HX.out] at c
      rw [hq2.out, HA.out] at c
      refine c.mono ?_
      clear c
      rintro e w2 ⟨rfl, rfl⟩
      go_wp2_with fail
      have c := lowest_any w1.heap.size r (w1.alloc (.cells #[.string r] 9)) HC.out
      rw [HR.out, HN.out] at c
      refine c.mono ?_
      clear c
      rintro e w3 ⟨rfl, hb3⟩
      have HB3 := Lib.hid (HB.out.trans (hb3.mono HB.out.size))
      clear hb3
      go_wp2_with fail
      go_ret3
      exact ⟨by rw [HP.out]; rfl, HB3.out⟩
    · have hn3 : n ≤ 32 := by omega
      clear h33 hn2 hq
      by_cases hl : loN A n = A
      · have HP : Hid (pfx s.data.toList = (A, n, 0)) := by show _ = _; unfold pfx; rw [HN.out, HA.out, hq2.out, if_pos ⟨rfl, hn3⟩, if_pos hl]
        have HM : Hid (mayI A (n : Int) = 0) := by show _ = _; rw [may_in A n hn3, if_pos hl]
        clear hl
        go_enter Tryd.func22, Tryd.ntmps22
        go_wp2_with fail
        refine (C.out w).mono ?_
        rintro e w1 ⟨x, r, b, rfl, hx, hr, hb⟩
        have HX := Lib.hid hx
        have HR := Lib.hid hr
        have HB : Hid (Below w.heap.size w (w1.alloc (.cells #[.string r] 9))) := hb.alloc hb.size _
        have HC : Hid ((w1.alloc (.cells #[.string r] 9)).cell? ⟨w1.heap.size, 0, none⟩ = some (.string r)) := by show _ = _; rw [World.cell?_alloc_mark]; rfl
        have HZ : Hid (x.size ≤ maxLen) := by
          have e1 : x.data.toList.length ≤ s.data.toList.length := by rw [hx]; exact head_len _
          exact Nat.le_trans e1 hs.out
        clear hx hr hb
        go_wp2_with fail
        have c := parse_any x (w1.alloc (.cells #[.string r] 9)) HZ.out
        rw [HX.out] at c
        rw [hq2.out, HA.out] at c
        refine c.mono ?_
        clear c
        rintro e w2 ⟨rfl, rfl⟩
        go_wp2_with fail
        have c := lowest_any w1.heap.size r (w1.alloc (.cells #[.string r] 9)) HC.out
        rw [HR.out, HN.out] at c
        refine c.mono ?_
        clear c
        rintro e w3 ⟨rfl, hb3⟩
        have HB3 := Lib.hid (HB.out.trans (hb3.mono HB.out.size))
        clear hb3
        go_wp2_with fail
        have c := may_any A (n : Int) w3 ha
        rw [HM.out] at c
        refine c.mono ?_
        clear c
        rintro e w4 ⟨rfl, hb4⟩
        have HB4 := Lib.hid (HB3.out.trans (hb4.mono HB3.out.size))
        clear hb4
        go_wp2_with fail
        go_ret3
        exact ⟨by rw [HP.out]; rfl, HB4.out⟩
      · have HP : Hid (pfx s.data.toList = (0, 0, 8)) := by show _ = _; unfold pfx; rw [HN.out, HA.out, hq2.out, if_pos ⟨rfl, hn3⟩, if_neg hl]
        have HM : Hid (mayI A (n : Int) = 8) := by show _ = _; rw [may_in A n hn3, if_neg hl]
        clear hl
        go_enter Tryd.func22, Tryd.ntmps22
        go_wp2_with fail
        refine (C.out w).mono ?_
        rintro e w1 ⟨x, r, b, rfl, hx, hr, hb⟩
        have HX := Lib.hid hx
        have HR := Lib.hid hr
        have HB : Hid (Below w.heap.size w (w1.alloc (.cells #[.string r] 9))) := hb.alloc hb.size _
        have HC : Hid ((w1.alloc (.cells #[.string r] 9)).cell? ⟨w1.heap.size, 0, none⟩ = some (.string r)) := by show _ = _; rw [World.cell?_alloc_mark]; rfl
        have HZ : Hid (x.size ≤ maxLen) := by
          have e1 : x.data.toList.length ≤ s.data.toList.length := by rw [hx]; exact head_len _
          exact Nat.le_trans e1 hs.out
        clear hx hr hb
        go_wp2_with fail
        have c := parse_any x (w1.alloc (.cells #[.string r] 9)) HZ.out
        rw [HX.out] at c
        rw [hq2.out, HA.out] at c
        refine c.mono ?_
        clear c
        rintro e w2 ⟨rfl, rfl⟩
        go_wp2_with fail
        have c := lowest_any w1.heap.size r (w1.alloc (.cells #[.string r] 9)) HC.out
        rw [HR.out, HN.out] at c
        refine c.mono ?_
        clear c
        rintro e w3 ⟨rfl, hb3⟩
        have HB3 := Lib.hid (HB.out.trans (hb3.mono HB.out.size))
        clear hb3
        go_wp2_with fail
        have c := may_any A (n : Int) w3 ha
        rw [HM.out] at c
        refine c.mono ?_
        clear c
        rintro e w4 ⟨rfl, hb4⟩
        have HB4 := Lib.hid (HB3.out.trans (hb4.mono HB3.out.size))
        clear hb4
        go_wp2_with fail
        go_ret3
        exact ⟨by rw [HP.out]; rfl, HB4.out⟩
  · have HQ : Hid (pa (headS s.data.toList) = 0 ∧ pe (headS s.data.toList) = 7) := by
      rcases pe_cases (headS s.data.toList) with ⟨h, _⟩ | ⟨h, h2⟩
      · exact absurd h hq
      · exact ⟨h2, h⟩
    have HP : Hid (pfx s.data.toList = (0, 0, 7)) := by show _ = _; unfold pfx; rw [if_neg (fun h => hq h.1)]
    clear hq
    go_enter Tryd.func22, Tryd.ntmps22
    go_wp2_with fail
    refine (C.out w).mono ?_
    rintro e w1 ⟨x, r, b, rfl, hx, hr, hb⟩
    have HX := Lib.hid hx
    have HR := Lib.hid hr
    have HB : Hid (Below w.heap.size w (w1.alloc (.cells #[.string r] 9))) := hb.alloc hb.size _
    have HC : Hid ((w1.alloc (.cells #[.string r] 9)).cell? ⟨w1.heap.size, 0, none⟩ = some (.string r)) := by show _ = _; rw [World.cell?_alloc_mark]; rfl
    have HZ : Hid (x.size ≤ maxLen) := by
      have e1 : x.data.toList.length ≤ s.data.toList.length := by rw [hx]; exact head_len _
      exact Nat.le_trans e1 hs.out
    clear hx hr hb
    go_wp2_with fail
    have c := parse_any x (w1.alloc (.cells #[.string r] 9)) HZ.out
    rw [HX.out] at c
    rw [HQ.out.1, HQ.out.2] at c
    refine c.mono ?_
    clear c
    rintro e w2 ⟨rfl, rfl⟩
    go_wp2_with fail
    go_ret3
    exact ⟨by rw [HP.out]; rfl, HB.out⟩
end Go.Proofs.YtloaaaddbmcpdaaDoor
