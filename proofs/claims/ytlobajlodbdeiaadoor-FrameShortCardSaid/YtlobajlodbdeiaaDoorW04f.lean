/- The walks of the laws of package theseuslaw04: FrameShort. -/
import Derived.Test.YtlobajlodbdeiaaDoorL04
import Derived.Test.YtlobajlodbdeiaaDoorFrmT
import Derived.Deep.DeepCutAuto
import Derived.Laws.BitsAllLaws
namespace Go.Proofs.YtlobajlodbdeiaaDoor
open Go.RowKit
set_option linter.unusedVariables false
set_option linter.unusedSimpArgs false
attribute [local go_sem ↓] sliced_cut
attribute [local go_sem] cutA_zero

theorem take_few (M : Nat) (l : List UInt8) (h : l.length < 8) : takeF M l = ([], 2) := by rw [takeF, if_pos h]
/-- with its last byte turned -/
theorem last_turned (M K : Nat) (X : List UInt8) (b : UInt8) (hb : b ≠ 0) (F : List UInt8) (hF : F = (frameN M X).set (X.length + 7) ((frameN M X)[X.length + 7]'(by rw [frameN_length]; omega) ^^^ b)) (hM : M ≤ 4294967295) (hK : K ≤ 4294967295) :
    takeF K F = if M = K then ([], 6) else ([], 5) := by
  have hl : F.length = X.length + 8 := by rw [hF, List.length_set, frameN_length]
  have h4 := be_length 4 M
  have hne : F ≠ frameN M X := by
    intro h
    have h1 : F[X.length + 7]? = (frameN M X)[X.length + 7]? := by rw [h]
    rw [hF, List.getElem?_set_self (by rw [frameN_length]; omega), List.getElem?_eq_getElem (by rw [frameN_length]; omega)] at h1
    have h2 := Option.some.inj h1
    generalize (frameN M X)[X.length + 7]'(by rw [frameN_length]; omega) = y at h2
    have h3 : y ^^^ (y ^^^ b) = y ^^^ y := by rw [h2]
    rw [← UInt8.xor_assoc, UInt8.xor_self, UInt8.zero_xor] at h3
    exact hb h3
  have hhead : F.take (X.length + 4) = be 4 M ++ X := by
    rw [hF, List.take_set_of_le (by omega)]
    have := sealN_head (be 4 M ++ X)
    rw [List.length_append, h4, Nat.add_comm 4] at this
    exact this
  have hf4 : F.take 4 = be 4 M := by
    have : (F.take (X.length + 4)).take 4 = be 4 M := by rw [hhead, List.take_append_of_le_length (by omega), List.take_of_length_le (by omega)]
    rw [List.take_take, Nat.min_eq_left (by omega)] at this
    exact this
  unfold takeF
  rw [if_neg (by omega), hf4, hl, show X.length + 8 - 4 = X.length + 4 from by omega, hhead]
  by_cases h : M = K
  · subst h
    rw [if_neg (by simp), if_pos (fun h2 => hne h2.symm), if_pos rfl]
  · rw [if_pos (fun h2 => h (be_inj (s := 4) (by omega) (by omega) h2)), if_neg h]
theorem open_form (c d : UInt8) (h : d ≠ c) (l : List UInt8) : openF c (d :: l) = ([], [], 3) := by rw [openF, if_pos h]
theorem open_zero (c : UInt8) : openF c [c, 128, 0] = ([], [], 3) := by
  rw [openF, if_neg (by simp)]
  rfl
theorem open_two (c : UInt8) : openF c [c, 2, 0] = ([], [], 2) := by
  rw [openF, if_neg (by simp)]
  rfl
theorem open_one (c : UInt8) : openF c [c] = ([], [], 2) := by
  rw [openF, if_neg (by simp)]
  rfl
theorem u8_xor_b (a b : UInt8) : bits .xor .u8 (a.toNat : Int) (b.toNat : Int) = ((a ^^^ b).toNat : Int) := by
  rw [u8_xor_nat a.toNat b.toNat (by have := a.toNat_lt; omega) (by have := b.toNat_lt; omega), UInt8.toNat_xor]
theorem u8_or_b (b : UInt8) : bits .or .u8 1 (b.toNat : Int) = ((1 ||| b).toNat : Int) := by
  have := u8_or_nat 1 b.toNat (by omega) (by have := b.toNat_lt; omega)
  rw [UInt8.toNat_or]
  exact this
theorem or_one (b : UInt8) : (1 : UInt8) ||| b ≠ 0 := by
  intro h
  have h1 : ((1 : UInt8) ||| b).toNat = 0 := by rw [h]; rfl
  rw [UInt8.toNat_or] at h1
  have h2 := Nat.or_eq_zero_iff.1 h1
  exact absurd h2.1 (by decide)
theorem byte_up (c : UInt8) : ((c.toNat : Int) + 1) % 256 = ((c + 1).toNat : Int) ∧ c + 1 ≠ c := by
  have h : ∀ x : Fin 256, (((UInt8.ofNat x.val).toNat : Int) + 1) % 256 = ((UInt8.ofNat x.val + 1).toNat : Int) ∧ UInt8.ofNat x.val + 1 ≠ UInt8.ofNat x.val := by decide +kernel
  have := h ⟨c.toNat, c.toNat_lt⟩
  rw [show UInt8.ofNat c.toNat = c from UInt8.ofNat_toNat] at this
  exact this
set_option maxRecDepth 100000 in
set_option maxHeartbeats 2000000 in
theorem walkFrameShort (a0 : Option Addr) (n0 c0 : Nat) (l0 : List UInt8) (a1 a2 : Int) (w : World) (ht : Hid (Tab w)) (w0 : InB w a0 n0 c0 l0) (w1 : (Lit.int .u32 a1).wf = true) (w2 : (Lit.int .u8 a2).wf = true) :
    Calls Tryd.prog 7 #[.slice a0 n0 c0, .int .u32 a1, .int .u8 a2] w fun e w' => e = .returned (.bool true) ∧ Below w.heap.size w w' := by
  obtain ⟨m, X, hm, hlx, hmc, hmx, HX, FX⟩ := few_pack a0 n0 c0 l0 w w0
  obtain ⟨ha0, ha1⟩ := bounds_u32 w1
  obtain ⟨M, rfl⟩ := Int.eq_ofNat_of_zero_le ha0
  have hM : (M : Int) ≤ 4294967295 := by omega
  obtain ⟨hc0, hc1⟩ := bounds_u8 w2
  obtain ⟨C, rfl⟩ : ∃ C : UInt8, a2 = (C.toNat : Int) := ⟨UInt8.ofNat a2.toNat, by rw [toNat_ofNat_mod]; omega⟩
  obtain ⟨M', hM', hMb, hMn⟩ : ∃ M' : Nat, ((M : Int) + 1) % 4294967296 = (M' : Int) ∧ (M' : Int) ≤ 4294967295 ∧ M ≠ M' := ⟨(M + 1) % 4294967296, by omega, by omega, by omega⟩
  have HM' := Lib.hid hM'
  have HMN := Lib.hid hMn
  clear ha0 ha1 w0 w1 w2 hc0 hc1 hM' hMn
  have HLX := Lib.hid hlx
  have HMX := Lib.hid hmx
  clear hlx hmx
  go_enter Tryd.func7, Tryd.ntmps7
  go_wp2_with fail
  refine (shown4 _).mono ?_
  rintro e w1 ⟨rfl, hb1⟩
  have HB1 := Lib.hid hb1
  have HT1 := Lib.hid (ht.out.bel hb1)
  have HX1 : Hid (IsB w1 (.slice a0 m c0) X) := ⟨_, _, _, rfl, hmc, HMX.out, HLX.out, HX.out.bel hb1⟩
  have HB1s : Hid (w.heap.size ≤ w1.heap.size) := hb1.size
  clear hb1 HX
  go_wp2_with fail
  refine (FX.out _).mono ?_
  rintro e w' ⟨rfl, rfl⟩
  go_wp2_with fail
  refine (fput_any M _ X _ hM HX1.out (by rw [HLX.out]; omega) HT1).mono ?_
  rintro e w2 ⟨v2, rfl, ho2, hb2⟩
  rw [HLX.out] at ho2
  obtain ⟨g, cap, rfl, hncap, hcap, hg⟩ : ∃ g cap, v2 = .slice (some ⟨g, 0, none⟩) (m + 8) cap ∧ m + 8 ≤ cap ∧ cap ≤ maxLen ∧ w1.heap.size ≤ g := by
    rcases ho2.2 with ⟨rfl, h⟩ | ⟨g, cap, cur, rfl, h1, _, hnc2, hcap2, _⟩
    · omega
    · exact ⟨g, cap, rfl, hnc2, hcap2, h1⟩
  have HO2 := Lib.hid ho2
  have HB2 := Lib.hid (HB1.out.trans (hb2.mono HB1.out.size))
  have HT2 := Lib.hid (HT1.out.bel hb2)
  have HG := Lib.hid hg
  have HCAP := Lib.hid hcap
  have hcap' := hcap
  unfold maxLen at hcap'
  clear ho2 hb2 HB1 HT1 hg hcap HX1
  go_wp2_with fail
  refine (FX.out _).mono ?_
  rintro e w' ⟨rfl, rfl⟩
  go_wp2_with fail
  have HK : Hid (∀ (k : Nat) wr, k ≤ 8 → Below w2.heap.size w2 wr → IsB wr (.slice (some ⟨g, 0, none⟩) k cap) ((frameN M X).take k)) := fun k wr hk hb =>
    ⟨_, _, _, rfl, by omega, HCAP.out, by rw [List.length_take, frameN_length, HLX.out]; omega, by rw [vals_take]; exact ((Has.of_own HO2.out).bel hb).take k⟩
  have HTK : Hid (∀ K k, k < 8 → takeF K ((frameN M X).take k) = ([], 2)) := fun K k hk => take_few K _ (by rw [List.length_take]; omega)
  go_loopw [9] (fun i wr => ∃ k : Nat, k ≤ 8 ∧ i = .int .i64 k ∧ Hid (Below w2.heap.size w2 wr)) (fun i _ => 8 - (intOf i).toNat)
  case atStart => exact ⟨0, by omega, rfl, Below.refl _ _⟩
  case round =>
    obtain ⟨k, hk, rfl, HBe⟩ := hrel
    have HB3 := Lib.hid (HB2.out.trans (HBe.out.mono HB2.out.size))
    have HTr := Lib.hid (HT2.out.bel HBe.out)
    by_cases hlt : k < 8
    · have hkc : (k : Int) ≤ (cap : Int) := by omega
      have HIB := Lib.hid (HK.out k wr hk HBe.out)
      have HT0 := Lib.hid (fun K => HTK.out K k hlt)
      have HL8 : Hid (((frameN M X).take k).length ≤ 8) := by show _ ≤ _; rw [List.length_take]; omega
      generalize (frameN M X).take k = L at *
      go_wp2_with fail
      refine (ftake_any M _ L _ hM HIB.out (by have := HL8.out; omega) HTr).mono ?_
      rintro e w3 ⟨v3, rfl, hv3, hb3⟩
      rw [HT0.out M] at hv3 ⊢
      have HBe2 := Lib.hid (HBe.out.trans (hb3.mono HBe.out.size))
      have HTr2 := Lib.hid (HTr.out.bel hb3)
      have HIB2 := Lib.hid (HIB.out.bel hb3)
      clear hv3 hb3 HBe HTr HIB
      go_wp2_with fail
      rw [HM'.out]
      refine (ftake_any M' _ L _ hMb HIB2.out (by have := HL8.out; omega) HTr2).mono ?_
      rintro e w4 ⟨v4, rfl, hv4, hb4⟩
      rw [HT0.out M'] at hv4 ⊢
      have HBe3 := Lib.hid (HBe2.out.trans (hb4.mono HBe2.out.size))
      clear hv4 hb4 HBe2 HTr2 HIB2 HT0 HL8
      go_wp2_with fail
      go_roundw
      case rel => exact ⟨k + 1, by omega, by go_num, HBe3⟩
      case measure => simp [intOf]; omega
    · have hk8 : k = 8 := by omega
      subst hk8
      have HOr := Lib.hid (own_bel HO2.out HBe.out)
      have hlen : m + 7 < (frameN M X).length := by rw [frameN_length, HLX.out]; omega
      have hcell : wr.cell? ⟨g, m + 7, none⟩ = some (.int .u8 (((frameN M X)[m + 7]'hlen).toNat : Int)) := by
        rw [HOr.out.cellAt (m + 7) (by omega), List.getElem?_eq_getElem (by rw [vals_length]; exact hlen), vals_at]
      have hfro : wr.frozen? ⟨g, m + 7, none⟩ = false := HOr.out.frozenAt _
      have hi0 : (m : Int) + 8 - 1 = ((m + 7 : Nat) : Int) := by omega
      clear HBe HK HTK
      go_upto_region 13 with fail
      obtain ⟨y, hy⟩ : ∃ y, (frameN M X)[m + 7]'hlen = y := ⟨_, rfl⟩
      rw [hy, u8_or_b, u8_xor_b]
      obtain ⟨F, hF⟩ : ∃ F, F = (frameN M X).set (m + 7) (y ^^^ (1 ||| C)) := ⟨_, rfl⟩
      have ho3 := (HOr.out.stored (m + 7) (.int .u8 ((y ^^^ (1 ||| C)).toNat : Int))).1
      rw [show (vals (frameN M X)).set (m + 7) (.int .u8 ((y ^^^ (1 ||| C)).toNat : Int)) = vals F from by rw [hF, vals, vals, List.map_set]] at ho3
      have HV3 := Lib.hid (IsB.of_own ho3)
      have hgb : w.heap.size ≤ g := by have := HB2.out.size; have := HG.out; have := HB1s.out; omega
      have HB4 : Hid (Below w.heap.size w (wr.setCell ⟨g, m + 7, none⟩ (.int .u8 ((y ^^^ (1 ||| C)).toNat : Int)))) := HB3.out.setCell hgb _
      have HT4 := Lib.hid (ht.out.bel HB4.out)
      have hF' : F = (frameN M X).set (X.length + 7) ((frameN M X)[X.length + 7]'(by rw [frameN_length]; omega) ^^^ (1 ||| C)) := by
        have h1 : ∀ k (hk : k < (frameN M X).length), k = m + 7 → (frameN M X)[k] = y := by
          rintro k hk rfl
          exact hy
        rw [h1 (X.length + 7) _ (by rw [HLX.out]), HLX.out]
        exact hF
      have HTM : Hid (takeF M F = ([], 6)) := by
        show _ = _
        rw [last_turned M M X (1 ||| C) (or_one C) F hF' (by omega) (by omega), if_pos rfl]
      have HTM' : Hid (takeF M' F = ([], 5)) := by
        show _ = _
        rw [last_turned M M' X (1 ||| C) (or_one C) F hF' (by omega) (by omega), if_neg HMN.out]
      generalize wr.setCell ⟨g, m + 7, none⟩ (.int .u8 ((y ^^^ (1 ||| C)).toNat : Int)) = w5 at *
      have HFL : Hid ((F.length : Int) ≤ 1099511627776) := by show _ ≤ _; rw [hF, List.length_set, frameN_length, HLX.out]; omega
      clear hF' hF hy ho3 hcell hfro hi0 HOr HB3 HTr HO2 HT2 HB2 ht hlen hgb HG HB1s
      go_wp2_with fail
      refine (ftake_any M _ F _ hM HV3.out HFL.out HT4).mono ?_
      rintro e w6 ⟨v6, rfl, hv6, hb6⟩
      rw [HTM.out]
      have HB5 := Lib.hid (HB4.out.trans (hb6.mono HB4.out.size))
      have HT5 := Lib.hid (HT4.out.bel hb6)
      have HV5 := Lib.hid (HV3.out.bel hb6)
      clear hv6 hb6 HB4 HT4 HV3 HTM
      go_wp2_with fail
      rw [HM'.out]
      refine (ftake_any M' _ F _ hMb HV5.out HFL.out HT5).mono ?_
      rintro e w7 ⟨v7, rfl, hv7, hb7⟩
      rw [HTM'.out]
      have HB6 := Lib.hid (HB5.out.trans (hb7.mono HB5.out.size))
      clear hv7 hb7 HB5 HT5 HV5 HTM' HFL
      go_wp2_with fail
      refine (open_code C _ [] _ (IsB.nil_ _) (by decide) 2 rfl).mono ?_
      rintro e w8 ⟨x8, y8, rfl, hb8⟩
      have HB7 := Lib.hid (HB6.out.trans (hb8.mono HB6.out.size))
      clear hb8 HB6
      go_wp2_with fail
      rw [(byte_up C).1]
      refine (open_code C _ [C + 1, 128] _ (IsB.new w8 [C + 1, 128] 5 (0, 0) 2 rfl (by decide)) (by show ((2 : Nat) : Int) ≤ _; decide) 3 (by rw [open_form _ _ (byte_up C).2])).mono ?_
      rintro e w9 ⟨x9, y9, rfl, hb9⟩
      have HB8 := Lib.hid (HB7.out.trans (((Below.refl _ _).alloc (Nat.le_refl _) _).trans (hb9.mono (by simp)) |>.mono HB7.out.size))
      clear hb9 HB7
      go_wp2_with fail
      refine (open_code C _ [C, 128, 0] _ (IsB.new w9 [C, 128, 0] 5 (0, 0) 3 rfl (by decide)) (by show ((3 : Nat) : Int) ≤ _; decide) 3 (by rw [open_zero])).mono ?_
      rintro e w10 ⟨x10, y10, rfl, hb10⟩
      have HB9 := Lib.hid (HB8.out.trans (((Below.refl _ _).alloc (Nat.le_refl _) _).trans (hb10.mono (by simp)) |>.mono HB8.out.size))
      clear hb10 HB8
      go_wp2_with fail
      refine (open_code C _ [C, 2, 0] _ (IsB.new w10 [C, 2, 0] 5 (0, 0) 3 rfl (by decide)) (by show ((3 : Nat) : Int) ≤ _; decide) 2 (by rw [open_two])).mono ?_
      rintro e w11 ⟨x11, y11, rfl, hb11⟩
      have HB10 := Lib.hid (HB9.out.trans (((Below.refl _ _).alloc (Nat.le_refl _) _).trans (hb11.mono (by simp)) |>.mono HB9.out.size))
      clear hb11 HB9
      go_wp2_with fail
      refine (open_code C _ [C] _ (IsB.new w11 [C] 5 (0, 0) 1 rfl (by decide)) (by show ((1 : Nat) : Int) ≤ _; decide) 2 (by rw [open_one])).mono ?_
      rintro e w12 ⟨x12, y12, rfl, hb12⟩
      have HB11 := Lib.hid (HB10.out.trans (((Below.refl _ _).alloc (Nat.le_refl _) _).trans (hb12.mono (by simp)) |>.mono HB10.out.size))
      clear hb12 HB10
      go_wp2_with fail
      go_ret
      exact ⟨rfl, HB11.out⟩
end Go.Proofs.YtlobajlodbdeiaaDoor
