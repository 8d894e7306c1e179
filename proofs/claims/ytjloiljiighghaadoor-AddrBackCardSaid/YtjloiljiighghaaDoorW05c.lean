/- The walks of the laws of package theseuslaw05: AddrBack. -/
import Derived.Test.YtjloiljiighghaaDoorL05
import Derived.Test.YtjloiljiighghaaDoorRef05
import Derived.Deep.DeepCutAuto
namespace Go.Proofs.YtjloiljiighghaaDoor
open Go.RowKit
set_option linter.unusedVariables false
set_option linter.unusedSimpArgs false

/-- Parse of a text that is known by its list -/
theorem parse_of (s : ByteArray) (l : List UInt8) (hl : s.data.toList = l) (hs : s.size ≤ 1000) (w : World) :
    Calls Tryd.prog 9 #[.string s] w fun e w' => e = .returned (.tuple #[.int .u32 (pa l : Int), .int .i64 (pe l)]) ∧ w = w' := by
  have h := parse_any s w (by unfold maxLen; omega)
  rw [hl] at h
  exact h
theorem list_app (x y : ByteArray) : (x ++ y).data.toList = x.data.toList ++ y.data.toList := by simp
set_option maxRecDepth 100000 in
set_option maxHeartbeats 2000000 in
theorem walkAddrBack (a0 : Int) (s : ByteArray) (w : World) (ht : Hid (Tab w)) (w0 : (Lit.int .u32 a0).wf = true) (w1 : s.size ≤ maxLen) :
    Calls Tryd.prog 4 #[.int .u32 a0, .string s] w fun e w' => e = .returned (.bool true) ∧ Below w.heap.size w w' := by
  obtain ⟨hl0, hh0⟩ := bounds_u32 w0
  obtain ⟨a, rfl⟩ := Int.eq_ofNat_of_zero_le hl0
  clear w0 hl0
  have ha : (a : Int) ≤ 4294967295 := by omega
  clear hh0
  obtain ⟨f, hf, HF, CF⟩ := few5 s w1
  have hs := w1
  unfold maxLen at hs
  -- the texts
  obtain ⟨t, htt⟩ : ∃ t : ByteArray, ⟨(txt a).toArray⟩ = t := ⟨_, rfl⟩
  have htl : t.data.toList = txt a := by rw [← htt]
  have hts : t.size ≤ 15 := by rw [← htt, size_of]; exact txt_le a
  have P0 := fun w ht => print_any a w ha ht
  rw [htt] at P0
  have P1 := parse_of t (txt a) htl (by omega)
  rw [pa_txt a (by omega), pe_txt a (by omega)] at P1
  have P2 := parse_of f _ rfl (by omega)
  have P3 := parse_of (t ++ f) _ rfl (by rw [ByteArray.size_append]; omega)
  have P4 := parse_of (⟨#[48]⟩ ++ t) (48 :: txt a) (by rw [list_app, htl]; rfl) (by rw [ByteArray.size_append]; show 1 + _ ≤ _; omega)
  rw [pe_nought a] at P4
  have HG : Hid ((t ++ f).data.toList = txt a ++ s.data.toList.take 30) := by show _ = _; rw [list_app, htl, HF.out]
  have hc1 := pe_cases f.data.toList
  have hc2 := pe_cases (t ++ f).data.toList
  have hcl := pa_lt f.data.toList
  have HQ : Hid (pe (t ++ f).data.toList = pe (txt a ++ s.data.toList.take 30)) := by show _ = _; rw [HG.out]
  generalize pa (t ++ f).data.toList = q1 at *
  generalize pe (t ++ f).data.toList = g at *
  generalize hcc : pa f.data.toList = c at *
  generalize pe f.data.toList = g1 at *
  generalize pa (48 :: txt a) = q2 at *
  have hc : (c : Int) ≤ 4294967295 := by omega
  have K0 := Lib.hid P0
  have K1 := Lib.hid P1
  have K2 := Lib.hid P2
  have K3 := Lib.hid P3
  have K4 := Lib.hid P4
  have HC1 := Lib.hid hc1
  have HC2 := Lib.hid hc2
  clear hc1 hc2 hcl hcc htl htt P0 P1 P2 P3 P4 w1
  go_enter Tryd.func4, Tryd.ntmps4
  go_wp2_with fail
  refine (shown5 w ht).mono ?_
  rintro e1 w1 ⟨rfl, hb1⟩
  have HB1 := Lib.hid hb1
  have HT1 := Lib.hid (ht.out.bel hb1)
  clear hb1
  go_wp2_with fail
  refine (K0.out w1 HT1).mono ?_
  rintro e1 w2 ⟨rfl, hb2⟩
  have HT2 := Lib.hid (HT1.out.bel hb2)
  have HB2 := Lib.hid (HB1.out.trans (hb2.mono HB1.out.size))
  clear hb2
  go_wp2_with fail
  refine (K1.out _).mono ?_
  rintro e1 w3 ⟨rfl, rfl⟩
  go_wp2_with fail
  refine (CF.out _).mono ?_
  rintro e1 w3 ⟨rfl, rfl⟩
  go_wp2_with fail
  refine (K2.out _).mono ?_
  rintro e1 w3 ⟨rfl, rfl⟩
  go_wp2_with fail
  refine (CF.out _).mono ?_
  rintro e1 w3 ⟨rfl, rfl⟩
  go_wp2_with fail
  refine (K3.out _).mono ?_
  rintro e1 w3 ⟨rfl, rfl⟩
  go_wp2_with fail
  refine (K4.out _).mono ?_
  rintro e1 w3 ⟨rfl, rfl⟩
  go_upto_region 7 with fail
  have HZ : Hid (∀ (h : 0 < s.size), isDig s[0] = false → g = 7) := fun h hd => by
    rw [HQ.out]
    have e := drop_at s 0 h
    rw [List.drop_zero] at e
    rw [e]
    exact pe_behind a s[0] _ hd
  have HE : Hid (s = ⟨#[]⟩ → g = 0) := fun h => by
    rw [HQ.out, h]
    show pe (txt a ++ []) = 0
    rw [List.append_nil]
    exact pe_txt a (by omega)
  clear HQ HG HF K1 K2 K3 K4
  rcases HC1.out with ⟨rfl, hcf⟩ | ⟨rfl, rfl⟩
  · have K5 : Hid (∀ _ : Unit, Calls Tryd.prog 14 #[.int .u32 c] w2 fun e w'' => e = .returned (.string f) ∧ Below w2.heap.size w2 w'') := fun _ => by
      have h1 := print_any c w2 hc HT2
      rw [hcf] at h1
      exact h1
    clear HC1 hcf
    rcases Nat.eq_zero_or_pos s.size with h0 | h0
    · obtain rfl : s = ⟨#[]⟩ := by
          apply ByteArray.ext
          exact Array.eq_empty_of_size_eq_zero h0
      obtain rfl : g = 0 := HE.out rfl
      clear HC2 HZ HE h0
      go_wp2_with fail
      refine (K5.out ()).mono ?_
      rintro e1 w3 ⟨rfl, hb3⟩
      have HB3 := Lib.hid (HB2.out.trans (hb3.mono HB2.out.size))
      clear hb3
      go_wp2_with fail
      refine (CF.out _).mono ?_
      rintro e1 w4 ⟨rfl, rfl⟩
      go_wp2_with fail
      go_ret
      exact ⟨rfl, HB3.out⟩
    · have h0i : 0 < (s.size : Int) := by omega
      have e1 : s.toList.isEmpty = false := by rw [ByteArray.toList_eq]; cases h : s.data.toList with | nil => (have : s.size = 0 := by (have h1 : s.data.toList.length = s.size := rfl); rw [← h1, h]; rfl); omega | cons x y => rfl
      have e2 : (s.toList == []) = false := by rw [← Bool.not_eq_true, beq_iff_eq]; intro h; rw [h] at e1; cases e1
      by_cases h1 : 48 ≤ s[0].toNat
      · by_cases h2 : s[0].toNat ≤ 57
        · have t1 : decide ((s[0].toNat : Int) ≤ 57) = true := by simp; omega
          have t2 : decide (48 ≤ (s[0].toNat : Int)) = true := by simp; omega
          have h1i : 48 ≤ (s[0].toNat : Int) := by omega
          have h2i : (s[0].toNat : Int) ≤ 57 := by omega
          clear HZ HE h1 h2
          rcases HC2.out with ⟨rfl, _⟩ | ⟨rfl, _⟩
          · clear HC2
            go_wp2_with fail
            refine (K5.out ()).mono ?_
            rintro e1 w3 ⟨rfl, hb3⟩
            have HB3 := Lib.hid (HB2.out.trans (hb3.mono HB2.out.size))
            clear hb3
            go_wp2_with fail
            refine (CF.out _).mono ?_
            rintro e1 w4 ⟨rfl, rfl⟩
            go_wp2_with fail
            go_ret
            exact ⟨rfl, HB3.out⟩
          · clear HC2
            go_wp2_with fail
            refine (K5.out ()).mono ?_
            rintro e1 w3 ⟨rfl, hb3⟩
            have HB3 := Lib.hid (HB2.out.trans (hb3.mono HB2.out.size))
            clear hb3
            go_wp2_with fail
            refine (CF.out _).mono ?_
            rintro e1 w4 ⟨rfl, rfl⟩
            go_wp2_with fail
            go_ret
            exact ⟨rfl, HB3.out⟩
        · obtain rfl : g = 7 := HZ.out h0 (by rw [← Bool.not_eq_true, isDig_iff]; omega)
          have h1i : 48 ≤ (s[0].toNat : Int) := by omega
          have h2i : 57 < (s[0].toNat : Int) := by omega
          have t1 : decide ((s[0].toNat : Int) ≤ 57) = false := by simp; omega
          clear HC2 HZ HE h1 h2
          go_wp2_with fail
          refine (K5.out ()).mono ?_
          rintro e1 w3 ⟨rfl, hb3⟩
          have HB3 := Lib.hid (HB2.out.trans (hb3.mono HB2.out.size))
          clear hb3
          go_wp2_with fail
          refine (CF.out _).mono ?_
          rintro e1 w4 ⟨rfl, rfl⟩
          go_wp2_with fail
          go_ret
          exact ⟨rfl, HB3.out⟩
      · obtain rfl : g = 7 := HZ.out h0 (by rw [← Bool.not_eq_true, isDig_iff]; omega)
        have h1i : (s[0].toNat : Int) < 48 := by omega
        have t1 : decide (48 ≤ (s[0].toNat : Int)) = false := by simp; omega
        clear HC2 HZ HE h1
        go_wp2_with fail
        refine (K5.out ()).mono ?_
        rintro e1 w3 ⟨rfl, hb3⟩
        have HB3 := Lib.hid (HB2.out.trans (hb3.mono HB2.out.size))
        clear hb3
        go_wp2_with fail
        refine (CF.out _).mono ?_
        rintro e1 w4 ⟨rfl, rfl⟩
        go_wp2_with fail
        go_ret
        exact ⟨rfl, HB3.out⟩
  · clear HC1
    rcases Nat.eq_zero_or_pos s.size with h0 | h0
    · obtain rfl : s = ⟨#[]⟩ := by
          apply ByteArray.ext
          exact Array.eq_empty_of_size_eq_zero h0
      obtain rfl : g = 0 := HE.out rfl
      clear HC2 HZ HE h0
      go_wp2_with fail
      go_ret
      exact ⟨rfl, HB2.out⟩
    · have h0i : 0 < (s.size : Int) := by omega
      have e1 : s.toList.isEmpty = false := by rw [ByteArray.toList_eq]; cases h : s.data.toList with | nil => (have : s.size = 0 := by (have h1 : s.data.toList.length = s.size := rfl); rw [← h1, h]; rfl); omega | cons x y => rfl
      have e2 : (s.toList == []) = false := by rw [← Bool.not_eq_true, beq_iff_eq]; intro h; rw [h] at e1; cases e1
      by_cases h1 : 48 ≤ s[0].toNat
      · by_cases h2 : s[0].toNat ≤ 57
        · have t1 : decide ((s[0].toNat : Int) ≤ 57) = true := by simp; omega
          have t2 : decide (48 ≤ (s[0].toNat : Int)) = true := by simp; omega
          have h1i : 48 ≤ (s[0].toNat : Int) := by omega
          have h2i : (s[0].toNat : Int) ≤ 57 := by omega
          clear HZ HE h1 h2
          rcases HC2.out with ⟨rfl, _⟩ | ⟨rfl, _⟩
          · clear HC2
            go_wp2_with fail
            go_ret
            exact ⟨rfl, HB2.out⟩
          · clear HC2
            go_wp2_with fail
            go_ret
            exact ⟨rfl, HB2.out⟩
        · obtain rfl : g = 7 := HZ.out h0 (by rw [← Bool.not_eq_true, isDig_iff]; omega)
          have h1i : 48 ≤ (s[0].toNat : Int) := by omega
          have h2i : 57 < (s[0].toNat : Int) := by omega
          have t1 : decide ((s[0].toNat : Int) ≤ 57) = false := by simp; omega
          clear HC2 HZ HE h1 h2
          go_wp2_with fail
          go_ret
          exact ⟨rfl, HB2.out⟩
      · obtain rfl : g = 7 := HZ.out h0 (by rw [← Bool.not_eq_true, isDig_iff]; omega)
        have h1i : (s[0].toNat : Int) < 48 := by omega
        have t1 : decide (48 ≤ (s[0].toNat : Int)) = false := by simp; omega
        clear HC2 HZ HE h1
        go_wp2_with fail
        go_ret
        exact ⟨rfl, HB2.out⟩
end Go.Proofs.YtjloiljiighghaaDoor
