/- Contracts of package theseusref06: Print, Parse. -/
import Derived.Test.YtloaaaddbmcpdaaDoorRef06
import Derived.Test.YtloaaaddbmcpdaaDoorPfxP
namespace Go.Proofs.YtloaaaddbmcpdaaDoor
open Go.RowKit
set_option linter.unusedVariables false
set_option linter.unusedSimpArgs false

theorem rpprint_any (a : Nat) (n : Int) (w : World) (ha : (a : Int) ≤ 4294967295) (hn : Hid (I64 n)) (ht : Hid (Tab w)) :
    Calls Tryd.prog 21 #[.int .u32 a, .int .i64 n] w fun e w' => e = .returned (.string ⟨(txt a ++ 47 :: Lib.itoa n).toArray⟩) ∧ Below w.heap.size w w' := by
  have c := rprint_any a w ha ht
  obtain ⟨d, hd⟩ : ∃ d : ByteArray, ⟨(txt a).toArray⟩ = d := ⟨_, rfl⟩
  have hds : d.size ≤ 15 := by rw [← hd, size_of]; exact txt_le a
  rw [hd] at c
  have c2 := fun w ht => itoa_int n w hn ht
  obtain ⟨f, hf⟩ : ∃ f : ByteArray, ⟨(Lib.itoa n).toArray⟩ = f := ⟨_, rfl⟩
  have hfs : f.size ≤ 21 := by rw [← hf, size_of]; exact Lib.itoa_length_le n hn.out.1 hn.out.2
  rw [hf] at c2
  have HE : Hid (d ++ ⟨#[47]⟩ ++ f = ⟨(txt a ++ 47 :: Lib.itoa n).toArray⟩) := by
    show _ = _
    rw [← hd, ← hf, show (⟨#[47]⟩ : ByteArray) = ⟨[47].toArray⟩ from rfl, ba_app, ba_app]
    simp
  have C := Lib.hid c
  have C2 := Lib.hid c2
  clear c c2 hd hf
  go_enter Tryd.func21, Tryd.ntmps21
  go_wp2_with fail
  refine C.out.mono ?_
  rintro e w1 ⟨rfl, hb⟩
  have HT := Lib.hid (ht.out.bel hb)
  have HB := Lib.hid hb
  clear hb
  go_wp2_with fail
  refine (C2.out w1 HT).mono ?_
  rintro e w2 ⟨rfl, hb⟩
  have HB2 := Lib.hid (HB.out.trans (hb.mono HB.out.size))
  clear hb
  go_wp2_with fail
  go_ret
  exact ⟨by rw [← HE.out]; rfl, HB2.out⟩
theorem last_sep (x y r s : List UInt8) (hr : (47 : UInt8) ∉ r) (hs : (47 : UInt8) ∉ s) (h : x ++ 47 :: r = y ++ 47 :: s) : x = y ∧ r = s := by
  have h1 := congrArg List.reverse h
  simp only [List.reverse_append, List.reverse_cons, List.append_assoc, List.singleton_append] at h1
  obtain ⟨h2, h3⟩ := split_sep 47 _ _ _ _ (by simpa using hr) (by simpa using hs) h1
  exact ⟨List.reverse_inj.1 h3, List.reverse_inj.1 h2⟩
theorem dec_len2 (k : Nat) (h : k ≤ 32) : (dec k).length ≤ 2 := by
  rcases dec_cases k (by omega) with ⟨_, e⟩ | ⟨_, _, e⟩ | ⟨_, _⟩
  · rw [e]; simp
  · rw [e]; simp
  · omega
theorem ba_ext (x y : ByteArray) (h : x.data.toList = y.data.toList) : x = y := ByteArray.ext (Array.toList_inj.1 h)
/-- a text that ends so -/
theorem ends_so (s : ByteArray) (k kk : Nat) (hk : k ≤ s.size) (p : List UInt8) (h : s.data.toList = p ++ 47 :: dec kk) (hl : s.size - (47 :: dec kk).length = k) : s.data.toList.drop k = 47 :: dec kk := by
  have h1 : s.data.toList.length = s.size := rfl
  rw [h] at h1
  rw [List.length_append] at h1
  rw [h, show k = p.length by omega, List.drop_left]
set_option maxHeartbeats 2000000 in
theorem rpparse_any (s : ByteArray) (w : World) (hs : s.size ≤ maxLen) (ht : Hid (Tab w)) :
    Calls Tryd.prog 24 #[.string s] w fun e w' => e = .returned (.tuple #[.int .u32 ((pfx s.data.toList).1 : Int), .int .i64 ((pfx s.data.toList).2.1 : Int), .int .i64 (pfx s.data.toList).2.2]) ∧ Below w.heap.size w w' := by
  have HS := Lib.hid hs
  have HLs : Hid (s.data.toList.length = s.size) := rfl
  unfold maxLen at hs
  go_enter Tryd.func24, Tryd.ntmps24
  go_wp2_with fail
  go_loop [5] (fun i => ∃ k : Nat, (k : Int) ≤ 33 ∧ i = .int .i64 k ∧ Hid (∀ j, j < k → ∀ p, s.data.toList ≠ p ++ 47 :: dec j)) (fun i => 33 - (intOf i).toNat)
  case atStart => exact ⟨0, by omega, rfl, fun j hj => absurd hj (Nat.not_lt_zero j)⟩
  case round =>
    obtain ⟨k, hk, rfl, HK⟩ := hrel
    by_cases hlt : (k : Int) ≤ 32
    · have C := Lib.hid (fun w => itoa_small k w (by omega))
      obtain ⟨f, hf⟩ : ∃ f : ByteArray, ⟨(dec k).toArray⟩ = f := ⟨_, rfl⟩
      have hf1 : f.size ≤ 2 := by rw [← hf, size_of]; exact dec_len2 k (by omega)
      rw [hf] at C
      obtain ⟨E, hE⟩ : ∃ E : ByteArray, ⟨#[47]⟩ ++ f = E := ⟨_, rfl⟩
      have HEl : Hid (E.data.toList = 47 :: dec k) := by show _ = _; rw [← hE, ← hf]; simp
      have HEs : Hid (E.size = (47 :: dec k).length) := by show E.data.toList.length = _; rw [HEl.out]
      have hE1 : 1 ≤ E.size := by rw [HEs.out]; simp
      have hE3 : E.size ≤ 3 := by rw [HEs.out, List.length_cons]; have := dec_len2 k (by omega); omega
      clear hf
      have HN : Hid ((∀ p, s.data.toList ≠ p ++ 47 :: dec k) → ∀ j, j < k + 1 → ∀ p, s.data.toList ≠ p ++ 47 :: dec j) := fun h j hj => by
        rcases Nat.lt_or_ge j k with g | g
        · exact HK.out j g
        · rw [show j = k by omega]; exact h
      by_cases hm : E.size ≤ s.size
      · obtain ⟨q, hq⟩ : ∃ q : Nat, (s.size : Int) - (E.size : Int) = (q : Int) := ⟨s.size - E.size, by omega⟩
        have hqs : q ≤ s.size := by omega
        have HQ : Hid (s.size - (47 :: dec k).length = q) := by show _ = _; rw [← HEs.out]; omega
        by_cases he : s.extract q s.size = E
        · have hl : s.data.toList = (s.extract 0 q).data.toList ++ 47 :: dec k := by
            rw [← HEl.out, ← he, extract_take, extract_drop, List.take_append_drop]
          have C2 := fun w ht => rparse_any (s.extract 0 q) w (by rw [ByteArray.size_extract]; unfold maxLen; omega) ht
          generalize hpl : (s.extract 0 q).data.toList = p at *
          rcases pe_cases p with ⟨hp1, hp2⟩ | ⟨hp1, hp2⟩
          · have hA := pa_lt p
            rw [hp1] at C2
            generalize pa p = A at *
            have ha : (A : Int) ≤ 4294967295 := by omega
            have hy := pfx_yes A k hA (by omega)
            rw [hp2, ← hl] at hy
            have K2 := Lib.hid C2
            have hmm := may_in A k (by omega)
            by_cases hz : loN A k = A
            · rw [if_pos hz] at hy hmm
              have M := Lib.hid (fun w => rmay_any A (k : Int) w ha)
              rw [hmm] at M
              have HP := Lib.hid hy
              clear hy hmm hz C2 hp1 hp2 hl hpl hA HN
              go_wp2_with fail
              refine (C.out _).mono ?_
              rintro e1 w1 ⟨rfl, rfl⟩
              go_wp2_with fail
              refine (K2.out _ ht).mono ?_
              rintro e1 w1 ⟨rfl, hb⟩
              have HB := Lib.hid hb
              clear hb
              go_wp2_with fail
              refine (M.out _).mono ?_
              rintro e1 w2 ⟨rfl, rfl⟩
              go_wp2_with fail
              go_ret3
              exact ⟨by rw [HP.out]; rfl, HB.out⟩
            · rw [if_neg hz] at hy hmm
              have M := Lib.hid (fun w => rmay_any A (k : Int) w ha)
              rw [hmm] at M
              have HP := Lib.hid hy
              clear hy hmm hz C2 hp1 hp2 hl hpl hA HN
              go_wp2_with fail
              refine (C.out _).mono ?_
              rintro e1 w1 ⟨rfl, rfl⟩
              go_wp2_with fail
              refine (K2.out _ ht).mono ?_
              rintro e1 w1 ⟨rfl, hb⟩
              have HB := Lib.hid hb
              clear hb
              go_wp2_with fail
              refine (M.out _).mono ?_
              rintro e1 w2 ⟨rfl, rfl⟩
              go_wp2_with fail
              go_ret3
              exact ⟨by rw [HP.out]; rfl, HB.out⟩
          · have hy : pfx s.data.toList = (0, 0, 7) := pfx_no _ fun a n ha hn e => by
              rw [hl] at e
              obtain ⟨e1, _⟩ := last_sep _ _ _ _ (dec_noslash k) (dec_noslash n) e
              rw [e1, pe_txt a ha] at hp1
              cases hp1
            rw [hp1, hp2] at C2
            have K2 := Lib.hid C2
            have HP := Lib.hid hy
            clear hy C2 hp1 hp2 hl hpl HN
            go_wp2_with fail
            refine (C.out _).mono ?_
            rintro e1 w1 ⟨rfl, rfl⟩
            go_wp2_with fail
            refine (K2.out _ ht).mono ?_
            rintro e1 w1 ⟨rfl, hb⟩
            have HB := Lib.hid hb
            clear hb
            go_wp2_with fail
            go_ret3
            exact ⟨by rw [HP.out]; rfl, HB.out⟩
        · have HM := Lib.hid (HN.out fun p h => he (ba_ext _ _ (by rw [extract_drop, HEl.out]; exact ends_so s q k hqs p h HQ.out)))
          have t1 := str_ne he
          have t2 : ((s.extract q s.size).toList != E.toList) = true := by rw [bne, t1]; rfl
          clear he HN
          go_wp2_with fail
          refine (C.out _).mono ?_
          rintro e1 w1 ⟨rfl, rfl⟩
          go_wp2_with fail
          go_round
          case rel => exact ⟨k + 1, by omega, by go_num, HM⟩
          case measure => simp [intOf]; omega
      · have HM := Lib.hid (HN.out fun p h => hm (by
          have h1 := HLs.out
          rw [h, List.length_append, ← HEs.out] at h1
          omega))
        go_wp2_with fail
        refine (C.out _).mono ?_
        rintro e1 w1 ⟨rfl, rfl⟩
        go_wp2_with fail
        go_round
        case rel => exact ⟨k + 1, by omega, by go_num, HM⟩
        case measure => simp [intOf]; omega
    · obtain rfl : k = 33 := by omega
      have HP : Hid (pfx s.data.toList = (0, 0, 7)) := pfx_no _ fun a n _ hn => HK.out n (by omega) _
      go_wp2_with fail
      go_ret3
      exact ⟨by rw [HP.out]; rfl, Below.refl _ _⟩
end Go.Proofs.YtloaaaddbmcpdaaDoor
