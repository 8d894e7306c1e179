/- The walks of the laws of package theseuslaw05: AddrParts. -/
import Derived.Test.YtjloiljiighghaaDoorL05
import Derived.Test.YtjloiljiighghaaDoorRef05
namespace Go.Proofs.YtjloiljiighghaaDoor
open Go.RowKit
set_option linter.unusedVariables false
set_option linter.unusedSimpArgs false

theorem parse_as (s : ByteArray) (l : List UInt8) (hl : s.data.toList = l) (hs : s.size ≤ 1000) (w : World) :
    Calls Tryd.prog 9 #[.string s] w fun e w' => e = .returned (.tuple #[.int .u32 (pa l : Int), .int .i64 (pe l)]) ∧ w = w' := by
  have h := parse_any s w (by unfold maxLen; omega)
  rw [hl] at h
  exact h
theorem list_app (x y : ByteArray) : (x ++ y).data.toList = x.data.toList ++ y.data.toList := by simp
/-- the first k numbers' texts, with dots between -/
def jn (f : Nat → Nat) : Nat → List UInt8
  | 0 => []
  | k + 1 => jn f k ++ (if 0 < k then [46] else []) ++ dec (f k)
theorem jn_four (f : Nat → Nat) : jn f 4 = txt4 (f 0) (f 1) (f 2) (f 3) := by simp [jn, txt4]
theorem jn_le (f : Nat → Nat) (hf : ∀ k, f k < 10000000) (k : Nat) : (jn f k).length ≤ 8 * k := by
  induction k with
  | zero => simp [jn]
  | succ k ih =>
    have := dec_le7 (f k) (hf k)
    rw [jn]
    split <;> simp <;> omega
theorem size_list (s : ByteArray) : s.size = s.data.toList.length := rfl
/-- a number's digits, as a text by itself -/
theorem decimal_lies (n : Nat) (hn : (n : Int) ≤ 100000) : ∃ d : ByteArray, d.size ≤ 7 ∧ Hid (d.data.toList = dec n) ∧ Hid (∀ w, Calls Tryd.prog 18 #[.int .i64 n] w fun e w' => e = .returned (.string d) ∧ w = w') :=
  ⟨⟨(dec n).toArray⟩, by rw [size_of]; exact dec_le7 n (by omega), rfl, fun w => decimal_any n w hn⟩
/-- the text with its last number, and the dot ahead of it, cut off -/
theorem cut_dots (a : Nat) : dots ((txt a).take ((txt a).length - (dec (byt a 3)).length - 1)) = 2 := by
  have e : txt a = (dec (byt a 0) ++ 46 :: (dec (byt a 1) ++ 46 :: dec (byt a 2))) ++ 46 :: dec (byt a 3) := by simp [txt, txt4]
  have h0 := dots_dec (byt a 0)
  have h1 := dots_dec (byt a 1)
  have h2 := dots_dec (byt a 2)
  rw [e, List.length_append, List.length_cons]
  generalize hX : dec (byt a 0) ++ 46 :: (dec (byt a 1) ++ 46 :: dec (byt a 2)) = X
  rw [show X.length + ((dec (byt a 3)).length + 1) - (dec (byt a 3)).length - 1 = X.length by omega, List.take_left', ← hX]
  · unfold dots at *
    simp only [List.count_append, List.count_cons_self, h0, h1, h2]
  · rfl
theorem txt_long (a : Nat) : (dec (byt a 3)).length + 1 ≤ (txt a).length := by simp [txt, txt4]; omega
theorem dots_txt (a : Nat) : dots (txt a) = 3 := dots_txt4 _ _ _ _
set_option maxRecDepth 100000 in
set_option maxHeartbeats 4000000 in
theorem walkAddrParts (a0 a1 a2 : Int) (w : World) (ht : Hid (Tab w)) (w0 : (Lit.int .u32 a0).wf = true) (w1 : (Lit.int .u8 a1).wf = true) (w2 : (Lit.int .u16 a2).wf = true) :
    Calls Tryd.prog 6 #[.int .u32 a0, .int .u8 a1, .int .u16 a2] w fun e w' => e = .returned (.bool true) ∧ Below w.heap.size w w' := by
  obtain ⟨hl0, hh0⟩ := bounds_u32 w0
  obtain ⟨hl1, hh1⟩ := bounds_u8 w1
  obtain ⟨hl2, hh2⟩ := bounds_u16 w2
  obtain ⟨a, rfl⟩ := Int.eq_ofNat_of_zero_le hl0
  obtain ⟨p, rfl⟩ := Int.eq_ofNat_of_zero_le hl1
  obtain ⟨b, rfl⟩ := Int.eq_ofNat_of_zero_le hl2
  clear w0 w1 w2 hl0 hl1 hl2
  have ha : (a : Int) ≤ 4294967295 := by omega
  have hp : (p : Int) ≤ 255 := by omega
  have hb : (b : Int) ≤ 65535 := by omega
  clear hh0 hh1 hh2
  obtain ⟨q, hq⟩ : ∃ q : Nat, ((p : Int) % 4) = (q : Int) := ⟨p % 4, by omega⟩
  have hq3 : (q : Int) ≤ 3 := by omega
  obtain ⟨g, hg⟩ : ∃ g : Nat → Nat, g = fun k => if k = q then 256 + b else byt a k := ⟨_, rfl⟩
  have HG := Lib.hid hg
  have hgl : ∀ k, g k < 10000000 := fun k => by rw [hg]; have := byt_lt a k; show (if k = q then 256 + b else byt a k) < _; split <;> omega
  have HGL := Lib.hid hgl
  have HFL : Hid (∀ k, byt a k < 10000000) := fun k => Nat.lt_trans (byt_lt a k) (by omega)
  clear hg hgl
  obtain ⟨dh, hdh, HDH, CDH⟩ := decimal_lies (256 + b) (by omega)
  go_enter Tryd.func6, Tryd.ntmps6
  go_wp2_with fail
  refine (shown5 w ht).mono ?_
  rintro e1 w1 ⟨rfl, hb1⟩
  have HB1 := Lib.hid hb1
  have HT1 := Lib.hid (ht.out.bel hb1)
  clear hb1
  go_wp2_with fail
  go_loop [8, 9, 10] (fun x y i => ∃ (k : Nat) (S O : ByteArray), k ≤ 4 ∧ i = .int .i64 k ∧ x = .string S ∧ y = .string O ∧ S.size ≤ 32 ∧ O.size ≤ 32 ∧ Hid (S.data.toList = jn (byt a) k) ∧ Hid (O.data.toList = jn g k)) (fun _ _ i => 4 - (intOf i).toNat)
  case atStart => exact ⟨0, ⟨#[]⟩, ⟨#[]⟩, by omega, rfl, rfl, rfl, (by decide : (0 : Nat) ≤ 32), (by decide : (0 : Nat) ≤ 32), rfl, rfl⟩
  case round =>
    obtain ⟨k, S, O, hk, rfl, rfl, rfl, hS, hO, HS, HO⟩ := hrel
    rcases (by omega : k = 0 ∨ k = 1 ∨ k = 2 ∨ k = 3 ∨ k = 4) with rfl | rfl | rfl | rfl | rfl
    · obtain ⟨d, hd, HD, CD⟩ := decimal_lies (byt a 0) (by have := byt_lt a 0; omega)
      have e := byte_of a 0 16777216 ha rfl
      have l := byt_lt a 0
      have HS2 : Hid ((S ++ d).data.toList = jn (byt a) 1) := by
        show _ = _
        rw [list_app, HS.out, HD.out]
        simp [jn]
      have HL2 : Hid ((S ++ d).size ≤ 32) := by
        show _ ≤ _
        rw [size_list, HS2.out]
        have := jn_le _ HFL.out 1
        omega
      by_cases hkq : q = 0
      · have t1 : ((0 : Int) == (q : Int)) = true := by rw [beq_iff_eq]; omega
        have HO2 : Hid ((O ++ dh).data.toList = jn g 1) := by
          show _ = _
          have hgk : g 0 = 256 + b := by rw [HG.out]; show (if 0 = q then 256 + b else byt a 0) = _; rw [if_pos hkq.symm]
          rw [list_app, HO.out, HDH.out]
          simp [jn, hgk]
        have HL3 : Hid ((O ++ dh).size ≤ 32) := by
          show _ ≤ _
          rw [size_list, HO2.out]
          have := jn_le _ HGL.out 1
          omega
        clear hkq
        go_wp2_with fail
        refine (CD.out _).mono ?_
        rintro e1 w3 ⟨rfl, rfl⟩
        go_wp2_with fail
        refine (CDH.out _).mono ?_
        rintro e1 w3 ⟨rfl, rfl⟩
        go_wp2_with fail
        go_round
        case rel => exact ⟨1, _, _, by omega, rfl, rfl, rfl, HL2.out, HL3.out, HS2, HO2⟩
        case measure => simp [intOf]
      · have t1 : ((0 : Int) == (q : Int)) = false := by rw [beq_eq_false_iff_ne]; omega
        have HO2 : Hid ((O ++ d).data.toList = jn g 1) := by
          show _ = _
          have hgk : g 0 = byt a 0 := by rw [HG.out]; show (if 0 = q then 256 + b else byt a 0) = _; rw [if_neg (fun h => hkq h.symm)]
          rw [list_app, HO.out, HD.out]
          simp [jn, hgk]
        have HL3 : Hid ((O ++ d).size ≤ 32) := by
          show _ ≤ _
          rw [size_list, HO2.out]
          have := jn_le _ HGL.out 1
          omega
        clear hkq
        go_wp2_with fail
        refine (CD.out _).mono ?_
        rintro e1 w3 ⟨rfl, rfl⟩
        go_wp2_with fail
        go_round
        case rel => exact ⟨1, _, _, by omega, rfl, rfl, rfl, HL2.out, HL3.out, HS2, HO2⟩
        case measure => simp [intOf]
    · obtain ⟨d, hd, HD, CD⟩ := decimal_lies (byt a 1) (by have := byt_lt a 1; omega)
      have e := byte_of a 1 65536 ha rfl
      have l := byt_lt a 1
      have HS2 : Hid ((S ++ ⟨#[46]⟩ ++ d).data.toList = jn (byt a) 2) := by
        show _ = _
        rw [list_app, list_app, HS.out, HD.out]
        simp [jn]
      have HL2 : Hid ((S ++ ⟨#[46]⟩ ++ d).size ≤ 32) := by
        show _ ≤ _
        rw [size_list, HS2.out]
        have := jn_le _ HFL.out 2
        omega
      by_cases hkq : q = 1
      · have t1 : ((1 : Int) == (q : Int)) = true := by rw [beq_iff_eq]; omega
        have HO2 : Hid ((O ++ ⟨#[46]⟩ ++ dh).data.toList = jn g 2) := by
          show _ = _
          have hgk : g 1 = 256 + b := by rw [HG.out]; show (if 1 = q then 256 + b else byt a 1) = _; rw [if_pos hkq.symm]
          rw [list_app, list_app, HO.out, HDH.out]
          simp [jn, hgk]
        have HL3 : Hid ((O ++ ⟨#[46]⟩ ++ dh).size ≤ 32) := by
          show _ ≤ _
          rw [size_list, HO2.out]
          have := jn_le _ HGL.out 2
          omega
        clear hkq
        go_wp2_with fail
        refine (CD.out _).mono ?_
        rintro e1 w3 ⟨rfl, rfl⟩
        go_wp2_with fail
        refine (CDH.out _).mono ?_
        rintro e1 w3 ⟨rfl, rfl⟩
        go_wp2_with fail
        go_round
        case rel => exact ⟨2, _, _, by omega, rfl, rfl, rfl, HL2.out, HL3.out, HS2, HO2⟩
        case measure => simp [intOf]
      · have t1 : ((1 : Int) == (q : Int)) = false := by rw [beq_eq_false_iff_ne]; omega
        have HO2 : Hid ((O ++ ⟨#[46]⟩ ++ d).data.toList = jn g 2) := by
          show _ = _
          have hgk : g 1 = byt a 1 := by rw [HG.out]; show (if 1 = q then 256 + b else byt a 1) = _; rw [if_neg (fun h => hkq h.symm)]
          rw [list_app, list_app, HO.out, HD.out]
          simp [jn, hgk]
        have HL3 : Hid ((O ++ ⟨#[46]⟩ ++ d).size ≤ 32) := by
          show _ ≤ _
          rw [size_list, HO2.out]
          have := jn_le _ HGL.out 2
          omega
        clear hkq
        go_wp2_with fail
        refine (CD.out _).mono ?_
        rintro e1 w3 ⟨rfl, rfl⟩
        go_wp2_with fail
        go_round
        case rel => exact ⟨2, _, _, by omega, rfl, rfl, rfl, HL2.out, HL3.out, HS2, HO2⟩
        case measure => simp [intOf]
    · obtain ⟨d, hd, HD, CD⟩ := decimal_lies (byt a 2) (by have := byt_lt a 2; omega)
      have e := byte_of a 2 256 ha rfl
      have l := byt_lt a 2
      have HS2 : Hid ((S ++ ⟨#[46]⟩ ++ d).data.toList = jn (byt a) 3) := by
        show _ = _
        rw [list_app, list_app, HS.out, HD.out]
        simp [jn]
      have HL2 : Hid ((S ++ ⟨#[46]⟩ ++ d).size ≤ 32) := by
        show _ ≤ _
        rw [size_list, HS2.out]
        have := jn_le _ HFL.out 3
        omega
      by_cases hkq : q = 2
      · have t1 : ((2 : Int) == (q : Int)) = true := by rw [beq_iff_eq]; omega
        have HO2 : Hid ((O ++ ⟨#[46]⟩ ++ dh).data.toList = jn g 3) := by
          show _ = _
          have hgk : g 2 = 256 + b := by rw [HG.out]; show (if 2 = q then 256 + b else byt a 2) = _; rw [if_pos hkq.symm]
          rw [list_app, list_app, HO.out, HDH.out]
          simp [jn, hgk]
        have HL3 : Hid ((O ++ ⟨#[46]⟩ ++ dh).size ≤ 32) := by
          show _ ≤ _
          rw [size_list, HO2.out]
          have := jn_le _ HGL.out 3
          omega
        clear hkq
        go_wp2_with fail
        refine (CD.out _).mono ?_
        rintro e1 w3 ⟨rfl, rfl⟩
        go_wp2_with fail
        refine (CDH.out _).mono ?_
        rintro e1 w3 ⟨rfl, rfl⟩
        go_wp2_with fail
        go_round
        case rel => exact ⟨3, _, _, by omega, rfl, rfl, rfl, HL2.out, HL3.out, HS2, HO2⟩
        case measure => simp [intOf]
      · have t1 : ((2 : Int) == (q : Int)) = false := by rw [beq_eq_false_iff_ne]; omega
        have HO2 : Hid ((O ++ ⟨#[46]⟩ ++ d).data.toList = jn g 3) := by
          show _ = _
          have hgk : g 2 = byt a 2 := by rw [HG.out]; show (if 2 = q then 256 + b else byt a 2) = _; rw [if_neg (fun h => hkq h.symm)]
          rw [list_app, list_app, HO.out, HD.out]
          simp [jn, hgk]
        have HL3 : Hid ((O ++ ⟨#[46]⟩ ++ d).size ≤ 32) := by
          show _ ≤ _
          rw [size_list, HO2.out]
          have := jn_le _ HGL.out 3
          omega
        clear hkq
        go_wp2_with fail
        refine (CD.out _).mono ?_
        rintro e1 w3 ⟨rfl, rfl⟩
        go_wp2_with fail
        go_round
        case rel => exact ⟨3, _, _, by omega, rfl, rfl, rfl, HL2.out, HL3.out, HS2, HO2⟩
        case measure => simp [intOf]
    · obtain ⟨d, hd, HD, CD⟩ := decimal_lies (byt a 3) (by have := byt_lt a 3; omega)
      have e : bits .and .u32 (a : Int) 255 = ((byt a 3 : Nat) : Int) := by have := byte_of a 3 1 ha rfl; rw [Int.ediv_one] at this; exact this
      have l := byt_lt a 3
      have HS2 : Hid ((S ++ ⟨#[46]⟩ ++ d).data.toList = jn (byt a) 4) := by
        show _ = _
        rw [list_app, list_app, HS.out, HD.out]
        simp [jn]
      have HL2 : Hid ((S ++ ⟨#[46]⟩ ++ d).size ≤ 32) := by
        show _ ≤ _
        rw [size_list, HS2.out]
        have := jn_le _ HFL.out 4
        omega
      by_cases hkq : q = 3
      · have t1 : ((3 : Int) == (q : Int)) = true := by rw [beq_iff_eq]; omega
        have HO2 : Hid ((O ++ ⟨#[46]⟩ ++ dh).data.toList = jn g 4) := by
          show _ = _
          have hgk : g 3 = 256 + b := by rw [HG.out]; show (if 3 = q then 256 + b else byt a 3) = _; rw [if_pos hkq.symm]
          rw [list_app, list_app, HO.out, HDH.out]
          simp [jn, hgk]
        have HL3 : Hid ((O ++ ⟨#[46]⟩ ++ dh).size ≤ 32) := by
          show _ ≤ _
          rw [size_list, HO2.out]
          have := jn_le _ HGL.out 4
          omega
        clear hkq
        go_wp2_with fail
        refine (CD.out _).mono ?_
        rintro e1 w3 ⟨rfl, rfl⟩
        go_wp2_with fail
        refine (CDH.out _).mono ?_
        rintro e1 w3 ⟨rfl, rfl⟩
        go_wp2_with fail
        go_round
        case rel => exact ⟨4, _, _, by omega, rfl, rfl, rfl, HL2.out, HL3.out, HS2, HO2⟩
        case measure => simp [intOf]
      · have t1 : ((3 : Int) == (q : Int)) = false := by rw [beq_eq_false_iff_ne]; omega
        have HO2 : Hid ((O ++ ⟨#[46]⟩ ++ d).data.toList = jn g 4) := by
          show _ = _
          have hgk : g 3 = byt a 3 := by rw [HG.out]; show (if 3 = q then 256 + b else byt a 3) = _; rw [if_neg (fun h => hkq h.symm)]
          rw [list_app, list_app, HO.out, HD.out]
          simp [jn, hgk]
        have HL3 : Hid ((O ++ ⟨#[46]⟩ ++ d).size ≤ 32) := by
          show _ ≤ _
          rw [size_list, HO2.out]
          have := jn_le _ HGL.out 4
          omega
        clear hkq
        go_wp2_with fail
        refine (CD.out _).mono ?_
        rintro e1 w3 ⟨rfl, rfl⟩
        go_wp2_with fail
        go_round
        case rel => exact ⟨4, _, _, by omega, rfl, rfl, rfl, HL2.out, HL3.out, HS2, HO2⟩
        case measure => simp [intOf]
    · have HS1 : Hid (S.data.toList = txt a) := by
        show _ = _
        rw [HS.out, jn_four]
        rfl
      have HO1 : Hid (pe O.data.toList = 7) := by
        show _ = _
        rw [HO.out, jn_four]
        refine pe_high _ _ _ _ ?_
        rw [HG.out]
        rcases (by omega : q = 0 ∨ q = 1 ∨ q = 2 ∨ q = 3) with rfl | rfl | rfl | rfl <;> simp
      obtain ⟨d, hd, HD, CD⟩ := decimal_lies (byt a 3) (by have := byt_lt a 3; omega)
      have e : bits .and .u32 (a : Int) 255 = ((byt a 3 : Nat) : Int) := by have := byte_of a 3 1 ha rfl; rw [Int.ediv_one] at this; exact this
      have l := byt_lt a 3
      have hdl : d.size = (dec (byt a 3)).length := by rw [size_list, HD.out]
      have hSl : S.size = (txt a).length := by rw [size_list, HS1.out]
      have hlong : d.size + 1 ≤ S.size := by rw [hdl, hSl]; exact txt_long a
      have hcut : S.size - d.size - 1 = (txt a).length - (dec (byt a 3)).length - 1 := by omega
      have P1 := parse_as O _ rfl (by omega)
      rw [HO1.out] at P1
      have P2 := parse_as (S ++ ⟨#[46]⟩) (txt a ++ [46]) (by rw [list_app, HS1.out]) (by rw [ByteArray.size_append]; show _ + 1 ≤ _; omega)
      rw [pe_dots (txt a ++ [46]) (by have := dots_txt a; unfold dots at *; rw [List.count_append, this]; decide)] at P2
      have P3 := parse_as (S.extract 0 (S.size - d.size - 1)) ((txt a).take ((txt a).length - (dec (byt a 3)).length - 1)) (by rw [hcut]; simp [HS1.out]) (by simp; omega)
      rw [pe_dots _ (by rw [cut_dots]; decide)] at P3
      have P4 := parse_as (⟨#[46]⟩ ++ S) (46 :: txt a) (by rw [list_app, HS1.out]; rfl) (by rw [ByteArray.size_append]; show 1 + _ ≤ _; omega)
      rw [pe_dots (46 :: txt a) (by have := dots_txt a; unfold dots at *; rw [List.count_cons_self, this]; decide)] at P4
      have P5 := print_any a w1 ha HT1
      rw [show (⟨(txt a).toArray⟩ : ByteArray) = S by apply ByteArray.ext; rw [← HS1.out]] at P5
      generalize pa O.data.toList = q1 at *
      generalize pa (txt a ++ [46]) = q2 at *
      generalize pa ((txt a).take ((txt a).length - (dec (byt a 3)).length - 1)) = q3 at *
      generalize pa (46 :: txt a) = q4 at *
      have K1 := Lib.hid P1
      have K2 := Lib.hid P2
      have K3 := Lib.hid P3
      have K4 := Lib.hid P4
      have K5 := Lib.hid P5
      clear P1 P2 P3 P4 P5 hcut hSl hdl HS HO
      have hm0 : 0 ≤ (S.size : Int) - (d.size : Int) - 1 := by omega
      have hm1 : (S.size : Int) - (d.size : Int) - 1 ≤ (S.size : Int) := by omega
      go_wp2_with fail
      refine (K1.out _).mono ?_
      rintro e1 w3 ⟨rfl, rfl⟩
      go_wp2_with fail
      refine (K2.out _).mono ?_
      rintro e1 w3 ⟨rfl, rfl⟩
      go_wp2_with fail
      refine (CD.out _).mono ?_
      rintro e1 w3 ⟨rfl, rfl⟩
      go_wp2_with fail
      refine (K3.out _).mono ?_
      rintro e1 w3 ⟨rfl, rfl⟩
      go_wp2_with fail
      refine (K4.out _).mono ?_
      rintro e1 w3 ⟨rfl, rfl⟩
      go_wp2_with fail
      refine K5.out.mono ?_
      rintro e1 w3 ⟨rfl, hb3⟩
      have HB3 := Lib.hid (HB1.out.trans (hb3.mono HB1.out.size))
      clear hb3
      go_wp2_with fail
      go_ret
      exact ⟨rfl, HB3.out⟩
end Go.Proofs.YtjloiljiighghaaDoor
