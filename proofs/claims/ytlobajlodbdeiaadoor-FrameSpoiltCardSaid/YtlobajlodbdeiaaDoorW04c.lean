/- The walks of the laws of package theseuslaw04: FrameSpoilt. -/
import Derived.Test.YtlobajlodbdeiaaDoorL04
import Derived.Test.YtlobajlodbdeiaaDoorFrmT
import Derived.StillTailTactics
import Derived.Deep.DeepCutAuto
import Derived.Laws.BitsAllLaws
namespace Go.Proofs.YtlobajlodbdeiaaDoor
open Go.RowKit
set_option linter.unusedVariables false
set_option linter.unusedSimpArgs false

theorem vals_turn (l : List UInt8) (p : Nat) (h : p / 8 < l.length) (b : UInt8) (hb : l[p / 8] = b) :
    (vals l).set (p / 8) (.int .u8 ((b ^^^ UInt8.ofNat (2 ^ (p % 8))).toNat : Int)) = vals (turnB l p) := by
  subst hb
  apply List.ext_getElem?
  intro j
  unfold turnB vals
  simp only [List.getElem?_set, List.getElem?_map, List.getElem?_modify, List.length_map]
  by_cases hj : p / 8 = j
  · subst hj
    simp [h]
  · simp [hj]
theorem low_pow (j : Nat) (h : j < 8) : (UInt8.ofNat (2 ^ j)).toNat = 2 ^ j := toNat_ofNat_lt (by have := Nat.pow_lt_pow_right (a := 2) (by omega) h; omega)
theorem xor_bit (b : UInt8) (j : Nat) (hj : j < 8) : bits .xor .u8 (b.toNat : Int) (IntKind.u8.wrap ((2 : Int) ^ j)) = ((b ^^^ UInt8.ofNat (2 ^ j)).toNat : Int) := by
  have h2 : (2 : Nat) ^ j < 256 := by have := Nat.pow_lt_pow_right (a := 2) (by omega) hj; omega
  have h : IntKind.u8.wrap ((2 : Int) ^ j) = ((UInt8.ofNat (2 ^ j)).toNat : Int) := by
    rw [low_pow j hj, IntKind.wrap_u8', show (2 : Int) ^ j = ((2 ^ j : Nat) : Int) from (Int.natCast_pow 2 j).symm]
    generalize 2 ^ j = z at *
    omega
  rw [h, u8_xor_nat b.toNat (UInt8.ofNat (2 ^ j)).toNat b.toNat_lt (UInt8.ofNat (2 ^ j)).toNat_lt, UInt8.toNat_xor]
theorem u32_or_one (P : Nat) (h : (P : Int) ≤ 4294967295) : ∃ T : Nat, bits .or .u32 (P : Int) 1 = (T : Int) ∧ T % 2 = 1 ∧ (T : Int) ≤ 4294967295 := by
  refine ⟨P ||| 1, u32_or_nat P 1 (by omega) (by omega), ?_, ?_⟩
  · have := Nat.or_mod_two_pow (a := P) (b := 1) (n := 1)
    rw [Nat.pow_one] at this
    rw [this]
    rcases Nat.mod_two_eq_zero_or_one P with h | h <;> rw [h] <;> rfl
  · have : P ||| 1 < 2 ^ 32 := Nat.or_lt_two_pow (by omega) (by omega)
    omega
theorem u32_low (x : Nat) (h : (x : Int) ≤ 4294967295) : bits .and .u32 (x : Int) 1 = ((x % 2 : Nat) : Int) := by
  have := u32_and_nat x 1 (by omega) (by omega)
  rw [Nat.and_one_is_mod] at this
  exact this
theorem shr_low (T k : Nat) (h : (T : Int) ≤ 4294967295) : bits .and .u32 ((T : Int) / 2 ^ k) 1 = ((T / 2 ^ k % 2 : Nat) : Int) := by
  have h1 : T / 2 ^ k ≤ T := Nat.div_le_self _ _
  have h2 := u32_low (T / 2 ^ k) (by omega)
  rw [Int.natCast_ediv, Int.natCast_pow] at h2
  exact h2
set_option maxRecDepth 100000 in
set_option maxHeartbeats 4000000 in
theorem walkFrameSpoilt (a0 : Option Addr) (n0 c0 : Nat) (l0 : List UInt8) (a1 : Int) (l2 : List Int) (w : World) (ht : Hid (Tab w)) (w0 : InB w a0 n0 c0 l0) (w1 : (Lit.int .u32 a1).wf = true) (w2 : l2.length = 2 ∧ ∀ x ∈ l2, (Lit.int .u32 x).wf = true) :
    Calls Tryd.prog 5 #[.slice a0 n0 c0, .int .u32 a1, .agg (l2.map (Value.int .u32)).toArray] w fun e w' => e = .returned (.bool true) ∧ Below w.heap.size w w' := by
  obtain ⟨m, X, hm, hlx, hmc, hmx, HX, FX⟩ := few_pack a0 n0 c0 l0 w w0
  obtain ⟨ha0, ha1⟩ := bounds_u32 w1
  obtain ⟨M, rfl⟩ := Int.eq_ofNat_of_zero_le ha0
  have hM : (M : Int) ≤ 4294967295 := by omega
  obtain ⟨hl2, hw2⟩ := w2
  obtain ⟨p0, p1, rfl⟩ : ∃ p0 p1, l2 = [p0, p1] := by
    match l2, hl2 with
    | [a, b], _ => exact ⟨a, b, rfl⟩
  obtain ⟨hp0, hp0'⟩ := bounds_u32 (hw2 p0 (by simp))
  obtain ⟨hp1, hp1'⟩ := bounds_u32 (hw2 p1 (by simp))
  obtain ⟨P, rfl⟩ := Int.eq_ofNat_of_zero_le hp0
  obtain ⟨Q, rfl⟩ := Int.eq_ofNat_of_zero_le hp1
  have hQ : (Q : Int) ≤ 4294967295 := by omega
  obtain ⟨T, hT, hT1, hT2⟩ := u32_or_one P (by omega)
  have HT := Lib.hid hT
  have HT1 := Lib.hid hT1
  clear hw2 hl2 w0 w1 ha0 ha1 hp0 hp1 hp0' hp1' hT hT1
  have HLX := Lib.hid hlx
  have HMX := Lib.hid hmx
  obtain ⟨F, hF⟩ : ∃ F, frameN M X = F := ⟨_, rfl⟩
  have HFL : Hid (F.length = m + 8) := by show _ = _; rw [← hF, frameN_length, hlx]
  have HSP : Hid (∀ (o : List UInt8) (x : Nat), o.length = m + 8 → levN o = levN F ^^^ x → ((∃ f T, x = 2 ^ f * T ∧ 0 < T ∧ T < 4294967296 ∧ x < 2 ^ (8 * (m + 4))) ∨ (∃ y, x = 2 ^ (8 * (m + 4)) * y ∧ 0 < y)) → takeF M o = ([], 5) ∨ takeF M o = ([], 6)) := fun o x h1 h2 h3 => by
    rw [← hlx] at h1 h3
    rw [← hF] at h2
    exact take_spoilt M M X o h1 x h2 h3
  have HF := Lib.hid hF
  clear hlx hmx hF
  go_enter Tryd.func5, Tryd.ntmps5
  go_wp2_with fail
  refine (shown4 _).mono ?_
  rintro e w1 ⟨rfl, hb1⟩
  have HB1 : Hid (Below w.heap.size w w1) := ((Below.refl _ _).alloc (Nat.le_refl _) _).trans (hb1.mono (by simp))
  have hq0 : w1.cell? ⟨w.heap.size, 0, none⟩ = some (.int .u32 (P : Int)) := by
    rw [hb1.cell (by simp), World.cell?_alloc_mark]
    rfl
  have hq1 : w1.cell? ⟨w.heap.size, 1, none⟩ = some (.int .u32 (Q : Int)) := by
    rw [hb1.cell (by simp), World.cell?_alloc_mark]
    rfl
  have HZ : Hid (w.heap.size < w1.heap.size) := by
    have := hb1.size
    simp only [World.size_alloc] at this
    exact this
  have HQ : Hid (∀ wx, Below w1.heap.size w1 wx → wx.cell? ⟨w.heap.size, 0, none⟩ = some (.int .u32 (P : Int)) ∧ wx.cell? ⟨w.heap.size, 1, none⟩ = some (.int .u32 (Q : Int))) := fun wx hb =>
    ⟨by rw [hb.cell HZ.out]; exact hq0, by rw [hb.cell HZ.out]; exact hq1⟩
  have HTb1 := Lib.hid (ht.out.bel HB1.out)
  have HX1 : Hid (IsB w1 (.slice a0 m c0) X) := ⟨_, _, _, rfl, hmc, HMX.out, HLX.out, HX.out.bel HB1.out⟩
  clear hb1 HX hq0 hq1
  go_wp2_with fail
  refine (FX.out _).mono ?_
  rintro e w' ⟨rfl, rfl⟩
  go_wp2_with fail
  refine (fput_any M _ X _ hM HX1.out (by rw [HLX.out]; omega) HTb1).mono ?_
  rintro e w2 ⟨v2, rfl, ho2, hb2⟩
  rw [HF.out, HLX.out] at ho2
  obtain ⟨A2, c2, rfl, hkc2, hcm2, hcl2, hcA2⟩ := Sl.of_own ho2
  have HA2 : Hid (Has w2 A2 (vals F)) := hcA2
  have HFV : Hid ((vals F).length = m + 8) := hcl2
  have HBF2 : Hid (Below w1.heap.size w1 w2) := hb2
  have HTb2 := Lib.hid (HTb1.out.bel hb2)
  have HOL := Lib.hid (World.ownsRow_lit (e := 5) (size := 1) w2 #[] 0 (Nat.le_refl _) (by decide) rfl)
  clear ho2 hb2 hcm2 hcl2 hcA2 HTb1 HX1
  obtain ⟨i0, hi0, hz0, hz1, hz2⟩ := info_parts byte_info
  go_upto_region 6 with (at_builtin; refine wpList_append_has _ rfl (.tmp 28) (.tmp 29) _ rfl w2.heap.size 5 i0 (.int .u8 0) 1 Tryd.underlying22 hi0 hz0 hz1 hz2 rfl (.slice (some ⟨w2.heap.size, 0, none⟩) 0 0) 0 [] rfl HOL.out A2 (m + 8) c2 (vals F) rfl HFV.out (HA2.out.alloc _) (vals_one _) (by unfold maxLen; omega) (by omega) (by simp) ?_; intro v3 w3 hown3 hgrow3 _; have HO3 := Lib.hid hown3; have HB3 : Hid (Below w2.heap.size w2 w3) := ((Below.refl _ _).alloc (Nat.le_refl _) _).grown hgrow3 (by simp) (fun q hq => (HOL.out.lt q hq).1); clear hown3 hgrow3)
  obtain ⟨g, cap, rfl, hncap, hcap, hg⟩ : ∃ g cap, v3 = .slice (some ⟨g, 0, none⟩) (m + 8) cap ∧ m + 8 ≤ cap ∧ cap ≤ maxLen ∧ w2.heap.size ≤ g := by
    rcases HO3.out.2 with ⟨rfl, h⟩ | ⟨g, cap, cur, rfl, h1, _, hnc2, hcap2, _⟩
    · omega
    · rw [Nat.zero_add] at hnc2 ⊢
      exact ⟨g, cap, rfl, hnc2, hcap2, h1⟩
  have HO3' : Hid (w3.ownsRow w2.heap.size 5 1 (.slice (some ⟨g, 0, none⟩) (m + 8) cap) (m + 8) (vals F)) := by
    have h := HO3.out
    rw [List.nil_append, Nat.zero_add] at h
    exact h
  have HG := Lib.hid hg
  have HCAP := Lib.hid hcap
  have HBF3 := Lib.hid (HBF2.out.trans (HB3.out.mono HBF2.out.size))
  obtain ⟨hq30, hq31⟩ := HQ.out w3 HBF3.out
  clear HO3 hg hcap
  obtain ⟨E, hE⟩ : ∃ E : Nat, 8 * (m + 4) = E := ⟨_, rfl⟩
  have hE0 : 8 * ((m : Int) + 8 - 4) = (E : Int) := by omega
  have hE1 : 0 < E := by omega
  have hE2 : E ≤ 1232 := by omega
  obtain ⟨f, hf⟩ : ∃ f : Nat, Q % E = f := ⟨_, rfl⟩
  have hfE : f < E := by rw [← hf]; exact Nat.mod_lt _ hE1
  have HE := Lib.hid hE
  have HE0 := Lib.hid hE0
  have HFM : Hid ((Q : Int) % (E : Int) = (f : Int)) := by show _ = _; omega
  clear hE hE0 hf
  go_upto_region 7 with fail
  rw [HE0.out]
  go_upto_region 8 with fail
  rw [HFM.out]
  go_upto_region 9 with fail
  rw [HT.out]
  go_wp2_with fail
  have HZ3 := Lib.hid HB3.out.size
  go_loopw [13] (fun i wr => ∃ k : Nat, k ≤ 32 ∧ i = .int .i64 k ∧ f + k ≤ E ∧ Hid (wr.ownsRow w2.heap.size 5 1 (.slice (some ⟨g, 0, none⟩) (m + 8) cap) (m + 8) (vals (burstN T f k F))) ∧ Hid (Below w2.heap.size w2 wr)) (fun i _ => 32 - (intOf i).toNat)
  case atStart => exact ⟨0, by omega, rfl, by omega, HO3', HB3⟩
  case round =>
    obtain ⟨k, hk, rfl, hfk, HO, HBe⟩ := hrel
    by_cases hgo : k < 32 ∧ f + k < E
    · obtain ⟨hk32, hfe⟩ := hgo
      · obtain ⟨p, hp⟩ : ∃ p : Nat, f + k = p := ⟨_, rfl⟩
        have hpI : (f : Int) + (k : Int) = (p : Int) := by omega
        have hpE : decide (p < E) = true := decide_eq_true (by omega)
        rcases Nat.mod_two_eq_zero_or_one (T / 2 ^ k) with hb | hb
        · have hbit : bits .and .u32 ((T : Int) / 2 ^ k) 1 = 0 := by rw [shr_low T k hT2, hb]; rfl
          have HN : Hid (burstN T f (k + 1) F = burstN T f k F) := by
            show _ = _
            rw [burstN, if_neg (by omega)]
          clear hb
          go_wp2_with fail
          go_roundw
          case rel => exact ⟨k + 1, by omega, by go_num, by omega, by rw [HN.out]; exact HO, HBe⟩
          case measure => simp [intOf]; omega
        · have hbit : bits .and .u32 ((T : Int) / 2 ^ k) 1 = 1 := by rw [shr_low T k hT2, hb]; rfl
          have HN : Hid (burstN T f (k + 1) F = turnB (burstN T f k F) p) := by
            show _ = _
            rw [burstN, if_pos hb, hp]
          have hpl : p / 8 < (burstN T f k F).length := by rw [burstN_length, HFL.out]; have := HE.out; omega
          obtain ⟨q, hq⟩ : ∃ q, p / 8 = q := ⟨_, rfl⟩
          obtain ⟨j, hj⟩ : ∃ j, p % 8 = j := ⟨_, rfl⟩
          have hj8 : j < 8 := by omega
          have hq8 : q < m + 8 := by have := HE.out; omega
          obtain ⟨b, hbv⟩ : ∃ b, (burstN T f k F)[p / 8]'hpl = b := ⟨_, rfl⟩
          have HST := Lib.hid (vals_turn (burstN T f k F) p hpl b hbv)
          have hcell : wr.cell? ⟨g, q, none⟩ = some (.int .u8 (b.toNat : Int)) := by
            rw [← hq, HO.out.cellAt (p / 8) (by omega), List.getElem?_eq_getElem (by rw [vals_length]; exact hpl), vals_at _ _ hpl, hbv]
          have hfro : wr.frozen? ⟨g, q, none⟩ = false := HO.out.frozenAt _
          have HST2 : Hid ((vals (burstN T f k F)).set q (.int .u8 ((b ^^^ UInt8.ofNat (2 ^ j)).toNat : Int)) = vals (turnB (burstN T f k F) p)) := by
            have h := HST.out
            rw [hq, hj] at h
            exact h
          have hw1 : IntKind.i64.wrap (p : Int) = (p : Int) := IntWalk.i64_in _ (by omega)
          have hw2 : Int.tdiv (p : Int) 8 = (q : Int) := by rw [Int.tdiv_eq_ediv_of_nonneg (by omega)]; omega
          have hw3 : IntKind.i64.wrap (q : Int) = (q : Int) := IntWalk.i64_in _ (by omega)
          have hw4 : Int.tmod (p : Int) 8 = (j : Int) := by rw [Int.tmod_eq_emod_of_nonneg (by omega)]; omega
          have hw5 : IntKind.i64.wrap (j : Int) = (j : Int) := IntWalk.i64_in _ (by omega)
          have hq0 : (0 : Int) ≤ (q : Int) := by omega
          have hq1 : (q : Int) < (m : Int) + 8 := by omega
          clear hb hbv hpl
          go_upto_region 13 with fail
          go_still_tail 19, (by kernel_rfl)
          rw [xor_bit b j hj8]
          change wpList _ _ _ _ _ wr.drew
          have hcell2 : wr.drew.cell? ⟨g, q, none⟩ = some (.int .u8 (b.toNat : Int)) := hcell
          have hfro2 : wr.drew.frozen? ⟨g, q, none⟩ = false := hfro
          have HBd : Hid (Below w2.heap.size w2 wr.drew) := HBe.out.drew
          have HOd : Hid (wr.drew.ownsRow w2.heap.size 5 1 (.slice (some ⟨g, 0, none⟩) (m + 8) cap) (m + 8) (vals (burstN T f k F))) := HO.out
          clear hcell hfro HO HBe hw1 hw2 hw3 hw4 hw5
          generalize wr.drew = wd at *
          go_wp2_with fail
          go_roundw
          case rel =>
            refine ⟨k + 1, by omega, by go_num, by omega, ?_, HBd.out.setCell (by have := HG.out; simpa using this) _⟩
            have h := (HOd.out.stored q (.int .u8 ((b ^^^ UInt8.ofNat (2 ^ j)).toNat : Int))).1
            rw [HST2.out, ← HN.out] at h
            exact h
          case measure => simp [intOf]; omega
    · have hk1 : 1 ≤ k := by omega
      have HSK := HSP.out (burstN T f k F) (2 ^ f * (T % 2 ^ k)) (by rw [burstN_length]; exact HFL.out) (levN_burst T f F k (by rw [HFL.out]; have := HE.out; omega)) (.inl ⟨f, T % 2 ^ k, rfl, by
        have h1 : T % 2 ^ k % 2 = T % 2 := Nat.mod_mod_of_dvd T (by rw [show k = (k - 1) + 1 from by omega, Nat.pow_succ]; exact Nat.dvd_mul_left _ _)
        have := HT1.out
        omega, by have := Nat.mod_le T (2 ^ k); omega, by
        rw [HE.out]
        have h1 : T % 2 ^ k < 2 ^ k := Nat.mod_lt _ (Nat.two_pow_pos k)
        have h2 : 2 ^ f * (T % 2 ^ k) < 2 ^ f * 2 ^ k := Nat.mul_lt_mul_of_pos_left h1 (Nat.two_pow_pos f)
        rw [← Nat.pow_add] at h2
        exact Nat.lt_of_lt_of_le h2 (Nat.pow_le_pow_right (by omega) hfk)⟩)
      obtain ⟨cc, hcc, hcc2⟩ : ∃ cc : Int, takeF M (burstN T f k F) = ([], cc) ∧ (cc = 5 ∨ cc = 6) := by
        rcases HSK with h | h
        · exact ⟨5, h, .inl rfl⟩
        · exact ⟨6, h, .inr rfl⟩
      have HCC := Lib.hid hcc
      have HCC2 := Lib.hid hcc2
      have HV := Lib.hid (IsB.of_own HO.out)
      have HBFr := Lib.hid (HBF2.out.trans (HBe.out.mono HBF2.out.size))
      have HTr := Lib.hid (HTb2.out.bel HBe.out)
      have HOLn : Hid (((burstN T f k F).length : Int) ≤ 1099511627776) := by show _ ≤ _; rw [burstN_length, HFL.out]; omega
      have hend : k = 32 ∨ (k < 32 ∧ f + k = E) := by omega
      clear HSK hcc hcc2 hgo hk hfk HO hk1 HG
      generalize burstN T f k F = O at *
      obtain ⟨E2, hE2⟩ : ∃ E2 : Nat, 8 * (m + 8) = E2 := ⟨_, rfl⟩
      have HE2 : Hid (8 * ((m : Int) + 8) = (E2 : Int)) := by show _ = _; omega
      obtain ⟨b2, hb2⟩ : ∃ b2 : Nat, Q % E2 = b2 := ⟨_, rfl⟩
      have hb2E : b2 < E2 := by rw [← hb2]; exact Nat.mod_lt _ (by omega)
      have HBM : Hid ((Q : Int) % (E2 : Int) = (b2 : Int)) := by show _ = _; omega
      obtain ⟨q, hq⟩ : ∃ q, b2 / 8 = q := ⟨_, rfl⟩
      obtain ⟨j, hj⟩ : ∃ j, b2 % 8 = j := ⟨_, rfl⟩
      have hj8 : j < 8 := by omega
      have hqm : q < m + 8 := by omega
      have HQJ : Hid (b2 / 8 = q ∧ b2 % 8 = j) := ⟨hq, hj⟩
      have HT2r : Hid (takeF M (turnB F b2) = ([], 5) ∨ takeF M (turnB F b2) = ([], 6)) := by
        refine HSP.out (turnB F b2) (2 ^ b2) (by rw [turnB_length]; exact HFL.out) (levN_turn F b2 (by rw [HFL.out]; omega)) ?_
        by_cases hlow : b2 < 8 * (m + 4)
        · exact .inl ⟨b2, 1, (Nat.mul_one _).symm, by omega, by omega, Nat.pow_lt_pow_right (by omega) hlow⟩
        · exact .inr ⟨2 ^ (b2 - 8 * (m + 4)), by rw [← Nat.pow_add]; congr 1; omega, Nat.two_pow_pos _⟩
      have hE2b : (E2 : Int) ≤ 1264 := by omega
      have HLK : Hid (F.length = m + 8) := HFL.out
      clear hE2 hb2 hq hj HSP
      have hdk : decide ((k : Int) < 32) = decide (k < 32) := by rw [decide_eq_decide]; omega
      clear hdk
      rcases hend with rfl | ⟨hk32, hfe⟩
      · go_wp2_with fail
        refine (ftake_any M _ O wr hM HV.out HOLn.out HTr).mono ?_
        rintro e w4 ⟨v4, rfl, hv4, hb4⟩
        rw [HCC.out] at hv4 ⊢
        obtain ⟨A4, n4, c4, rfl, _, _, hl4, _⟩ := hv4
        simp only [List.length_nil] at hl4
        subst hl4
        have HBF4 := Lib.hid (HBFr.out.trans (hb4.mono HBFr.out.size))
        have HB24 := Lib.hid (HBe.out.trans (hb4.mono HBe.out.size))
        have HT4 := Lib.hid (HTr.out.bel hb4)
        have HA4 : Hid (Has w4 A2 (vals F)) := HA2.out.bel HB24.out
        have HOL4 := Lib.hid (World.ownsRow_lit (e := 5) (size := 1) w4 #[] 0 (Nat.le_refl _) (by decide) rfl)
        clear hb4 HV HOLn HTr HBFr HBe HB24 hq30 hq31 HO3' HB3 HZ3 HBF3 HTb2
        go_upto_region 16 with (at_builtin; refine wpList_append_has _ rfl (.tmp 84) (.tmp 85) _ rfl w4.heap.size 5 i0 (.int .u8 0) 1 Tryd.underlying22 hi0 hz0 hz1 hz2 rfl (.slice (some ⟨w4.heap.size, 0, none⟩) 0 0) 0 [] rfl HOL4.out A2 (m + 8) c2 (vals F) rfl HFV.out (HA4.out.alloc _) (vals_one _) (by unfold maxLen; omega) (by omega) (by simp) ?_; intro v5 w5 hown5 hgrow5 _; have HO5 := Lib.hid hown5; have HB5 : Hid (Below w4.heap.size w4 w5) := ((Below.refl _ _).alloc (Nat.le_refl _) _).grown hgrow5 (by simp) (fun q hq => (HOL4.out.lt q hq).1); clear hown5 hgrow5)
        obtain ⟨g2, cap2, rfl, hncap2, hcap2, hg2⟩ : ∃ g cap, v5 = .slice (some ⟨g, 0, none⟩) (m + 8) cap ∧ m + 8 ≤ cap ∧ cap ≤ maxLen ∧ w4.heap.size ≤ g := by
          rcases HO5.out.2 with ⟨rfl, h⟩ | ⟨g, cap, cur, rfl, h1, _, hnc2, hcap2, _⟩
          · omega
          · rw [Nat.zero_add] at hnc2 ⊢
            exact ⟨g, cap, rfl, hnc2, hcap2, h1⟩
        have HO5' : Hid (w5.ownsRow w4.heap.size 5 1 (.slice (some ⟨g2, 0, none⟩) (m + 8) cap2) (m + 8) (vals F)) := by
          have h := HO5.out
          rw [List.nil_append, Nat.zero_add] at h
          exact h
        have HG2 := Lib.hid hg2
        have HBF5 := Lib.hid (HBF4.out.trans (HB5.out.mono HBF4.out.size))
        have HT5 := Lib.hid (HT4.out.bel HB5.out)
        obtain ⟨hq50, hq51⟩ := HQ.out w5 HBF5.out
        clear HO5 hg2 HT4 HA4 HOL4
        go_upto_region 17 with fail
        rw [HE2.out, HBM.out]
        have hpl : b2 / 8 < F.length := by rw [HLK.out, HQJ.out.1]; exact hqm
        obtain ⟨b, hbv⟩ : ∃ b, F[b2 / 8]'hpl = b := ⟨_, rfl⟩
        have HST := Lib.hid (vals_turn F b2 hpl b hbv)
        have hcell : w5.cell? ⟨g2, q, none⟩ = some (.int .u8 (b.toNat : Int)) := by
          rw [← HQJ.out.1, HO5'.out.cellAt (b2 / 8) (by rw [HQJ.out.1]; omega), List.getElem?_eq_getElem (by rw [vals_length]; exact hpl), vals_at _ _ hpl, hbv]
        have hfro : w5.frozen? ⟨g2, q, none⟩ = false := HO5'.out.frozenAt _
        have HST2 : Hid ((vals F).set q (.int .u8 ((b ^^^ UInt8.ofNat (2 ^ j)).toNat : Int)) = vals (turnB F b2)) := by
          have h := HST.out
          rw [HQJ.out.1, HQJ.out.2] at h
          exact h
        have hqj1 := HQJ.out.1
        have hqj2 := HQJ.out.2
        have hw2 : Int.tdiv (b2 : Int) 8 = (q : Int) := by rw [Int.tdiv_eq_ediv_of_nonneg (by omega)]; omega
        have hw3 : IntKind.i64.wrap (q : Int) = (q : Int) := IntWalk.i64_in _ (by omega)
        have hw4 : Int.tmod (b2 : Int) 8 = (j : Int) := by rw [Int.tmod_eq_emod_of_nonneg (by omega)]; omega
        have hw5 : IntKind.i64.wrap (j : Int) = (j : Int) := IntWalk.i64_in _ (by omega)
        have hq0 : (0 : Int) ≤ (q : Int) := by omega
        have hq1 : (q : Int) < (m : Int) + 8 := by omega
        clear hbv hpl hqj1 hqj2 HQJ hq50 hq51
        go_still_tail 13, (by kernel_rfl)
        rw [xor_bit b j hj8]
        change wpList _ _ _ _ _ w5.drew
        have hcell2 : w5.drew.cell? ⟨g2, q, none⟩ = some (.int .u8 (b.toNat : Int)) := hcell
        have hfro2 : w5.drew.frozen? ⟨g2, q, none⟩ = false := hfro
        have HOd : Hid (w5.drew.ownsRow w4.heap.size 5 1 (.slice (some ⟨g2, 0, none⟩) (m + 8) cap2) (m + 8) (vals F)) := HO5'.out
        have HBFd : Hid (Below w1.heap.size w1 w5.drew) := HBF5.out.drew
        have HTd : Hid (Tab w5.drew) := HT5.out
        clear hcell hfro HO5' HBF5 HT5 hw2 hw3 hw4 hw5 HB5
        generalize w5.drew = wd at *
        have ho6 := (HOd.out.stored q (.int .u8 ((b ^^^ UInt8.ofNat (2 ^ j)).toNat : Int))).1
        rw [HST2.out] at ho6
        have HV6 := Lib.hid (IsB.of_own ho6)
        have HBF6 : Hid (Below w1.heap.size w1 (wd.setCell ⟨g2, q, none⟩ (.int .u8 ((b ^^^ UInt8.ofNat (2 ^ j)).toNat : Int)))) := HBFd.out.setCell (by have := HG2.out; have := HBF4.out.size; show w1.heap.size ≤ g2; omega) _
        have HB6 := Lib.hid (HB1.out.trans (HBF6.out.mono HB1.out.size))
        have HT6 : Hid (Tab (wd.setCell ⟨g2, q, none⟩ (.int .u8 ((b ^^^ UInt8.ofNat (2 ^ j)).toNat : Int)))) := ht.out.bel HB6.out
        have HL6 : Hid (((turnB F b2).length : Int) ≤ 1099511627776) := by show _ ≤ _; rw [turnB_length, HLK.out]; omega
        clear ho6 HOd HBFd HTd HG2 HBF4 HBF6 HST HST2
        go_wp2_with fail
        refine (ftake_any M _ (turnB F b2) _ hM HV6.out HL6.out HT6).mono ?_
        rintro e w7 ⟨v7, rfl, hv7, hb7⟩
        have HB7 := Lib.hid (HB6.out.trans (hb7.mono HB6.out.size))
        clear hb7 HB6 HT6 HV6
        have hcc := HCC2.out
        rcases HT2r.out with h | h
        all_goals
          rw [h] at hv7 ⊢
          obtain ⟨A7, n7, c7, rfl, _, _, hl7, _⟩ := hv7
          simp only [List.length_nil] at hl7
          subst hl7
          clear h
          rcases hcc with rfl | rfl
          all_goals
            go_wp2_with fail
            go_ret
            exact ⟨rfl, HB7.out⟩
      · have hpE : decide (f + k < E) = false := decide_eq_false (by omega)
        go_wp2_with fail
        refine (ftake_any M _ O wr hM HV.out HOLn.out HTr).mono ?_
        rintro e w4 ⟨v4, rfl, hv4, hb4⟩
        rw [HCC.out] at hv4 ⊢
        obtain ⟨A4, n4, c4, rfl, _, _, hl4, _⟩ := hv4
        simp only [List.length_nil] at hl4
        subst hl4
        have HBF4 := Lib.hid (HBFr.out.trans (hb4.mono HBFr.out.size))
        have HB24 := Lib.hid (HBe.out.trans (hb4.mono HBe.out.size))
        have HT4 := Lib.hid (HTr.out.bel hb4)
        have HA4 : Hid (Has w4 A2 (vals F)) := HA2.out.bel HB24.out
        have HOL4 := Lib.hid (World.ownsRow_lit (e := 5) (size := 1) w4 #[] 0 (Nat.le_refl _) (by decide) rfl)
        clear hb4 HV HOLn HTr HBFr HBe HB24 hq30 hq31 HO3' HB3 HZ3 HBF3 HTb2
        go_upto_region 16 with (at_builtin; refine wpList_append_has _ rfl (.tmp 84) (.tmp 85) _ rfl w4.heap.size 5 i0 (.int .u8 0) 1 Tryd.underlying22 hi0 hz0 hz1 hz2 rfl (.slice (some ⟨w4.heap.size, 0, none⟩) 0 0) 0 [] rfl HOL4.out A2 (m + 8) c2 (vals F) rfl HFV.out (HA4.out.alloc _) (vals_one _) (by unfold maxLen; omega) (by omega) (by simp) ?_; intro v5 w5 hown5 hgrow5 _; have HO5 := Lib.hid hown5; have HB5 : Hid (Below w4.heap.size w4 w5) := ((Below.refl _ _).alloc (Nat.le_refl _) _).grown hgrow5 (by simp) (fun q hq => (HOL4.out.lt q hq).1); clear hown5 hgrow5)
        obtain ⟨g2, cap2, rfl, hncap2, hcap2, hg2⟩ : ∃ g cap, v5 = .slice (some ⟨g, 0, none⟩) (m + 8) cap ∧ m + 8 ≤ cap ∧ cap ≤ maxLen ∧ w4.heap.size ≤ g := by
          rcases HO5.out.2 with ⟨rfl, h⟩ | ⟨g, cap, cur, rfl, h1, _, hnc2, hcap2, _⟩
          · omega
          · rw [Nat.zero_add] at hnc2 ⊢
            exact ⟨g, cap, rfl, hnc2, hcap2, h1⟩
        have HO5' : Hid (w5.ownsRow w4.heap.size 5 1 (.slice (some ⟨g2, 0, none⟩) (m + 8) cap2) (m + 8) (vals F)) := by
          have h := HO5.out
          rw [List.nil_append, Nat.zero_add] at h
          exact h
        have HG2 := Lib.hid hg2
        have HBF5 := Lib.hid (HBF4.out.trans (HB5.out.mono HBF4.out.size))
        have HT5 := Lib.hid (HT4.out.bel HB5.out)
        obtain ⟨hq50, hq51⟩ := HQ.out w5 HBF5.out
        clear HO5 hg2 HT4 HA4 HOL4
        go_upto_region 17 with fail
        rw [HE2.out, HBM.out]
        have hpl : b2 / 8 < F.length := by rw [HLK.out, HQJ.out.1]; exact hqm
        obtain ⟨b, hbv⟩ : ∃ b, F[b2 / 8]'hpl = b := ⟨_, rfl⟩
        have HST := Lib.hid (vals_turn F b2 hpl b hbv)
        have hcell : w5.cell? ⟨g2, q, none⟩ = some (.int .u8 (b.toNat : Int)) := by
          rw [← HQJ.out.1, HO5'.out.cellAt (b2 / 8) (by rw [HQJ.out.1]; omega), List.getElem?_eq_getElem (by rw [vals_length]; exact hpl), vals_at _ _ hpl, hbv]
        have hfro : w5.frozen? ⟨g2, q, none⟩ = false := HO5'.out.frozenAt _
        have HST2 : Hid ((vals F).set q (.int .u8 ((b ^^^ UInt8.ofNat (2 ^ j)).toNat : Int)) = vals (turnB F b2)) := by
          have h := HST.out
          rw [HQJ.out.1, HQJ.out.2] at h
          exact h
        have hqj1 := HQJ.out.1
        have hqj2 := HQJ.out.2
        have hw2 : Int.tdiv (b2 : Int) 8 = (q : Int) := by rw [Int.tdiv_eq_ediv_of_nonneg (by omega)]; omega
        have hw3 : IntKind.i64.wrap (q : Int) = (q : Int) := IntWalk.i64_in _ (by omega)
        have hw4 : Int.tmod (b2 : Int) 8 = (j : Int) := by rw [Int.tmod_eq_emod_of_nonneg (by omega)]; omega
        have hw5 : IntKind.i64.wrap (j : Int) = (j : Int) := IntWalk.i64_in _ (by omega)
        have hq0 : (0 : Int) ≤ (q : Int) := by omega
        have hq1 : (q : Int) < (m : Int) + 8 := by omega
        clear hbv hpl hqj1 hqj2 HQJ hq50 hq51
        go_still_tail 13, (by kernel_rfl)
        rw [xor_bit b j hj8]
        change wpList _ _ _ _ _ w5.drew
        have hcell2 : w5.drew.cell? ⟨g2, q, none⟩ = some (.int .u8 (b.toNat : Int)) := hcell
        have hfro2 : w5.drew.frozen? ⟨g2, q, none⟩ = false := hfro
        have HOd : Hid (w5.drew.ownsRow w4.heap.size 5 1 (.slice (some ⟨g2, 0, none⟩) (m + 8) cap2) (m + 8) (vals F)) := HO5'.out
        have HBFd : Hid (Below w1.heap.size w1 w5.drew) := HBF5.out.drew
        have HTd : Hid (Tab w5.drew) := HT5.out
        clear hcell hfro HO5' HBF5 HT5 hw2 hw3 hw4 hw5 HB5
        generalize w5.drew = wd at *
        have ho6 := (HOd.out.stored q (.int .u8 ((b ^^^ UInt8.ofNat (2 ^ j)).toNat : Int))).1
        rw [HST2.out] at ho6
        have HV6 := Lib.hid (IsB.of_own ho6)
        have HBF6 : Hid (Below w1.heap.size w1 (wd.setCell ⟨g2, q, none⟩ (.int .u8 ((b ^^^ UInt8.ofNat (2 ^ j)).toNat : Int)))) := HBFd.out.setCell (by have := HG2.out; have := HBF4.out.size; show w1.heap.size ≤ g2; omega) _
        have HB6 := Lib.hid (HB1.out.trans (HBF6.out.mono HB1.out.size))
        have HT6 : Hid (Tab (wd.setCell ⟨g2, q, none⟩ (.int .u8 ((b ^^^ UInt8.ofNat (2 ^ j)).toNat : Int)))) := ht.out.bel HB6.out
        have HL6 : Hid (((turnB F b2).length : Int) ≤ 1099511627776) := by show _ ≤ _; rw [turnB_length, HLK.out]; omega
        clear ho6 HOd HBFd HTd HG2 HBF4 HBF6 HST HST2
        go_wp2_with fail
        refine (ftake_any M _ (turnB F b2) _ hM HV6.out HL6.out HT6).mono ?_
        rintro e w7 ⟨v7, rfl, hv7, hb7⟩
        have HB7 := Lib.hid (HB6.out.trans (hb7.mono HB6.out.size))
        clear hb7 HB6 HT6 HV6
        have hcc := HCC2.out
        rcases HT2r.out with h | h
        all_goals
          rw [h] at hv7 ⊢
          obtain ⟨A7, n7, c7, rfl, _, _, hl7, _⟩ := hv7
          simp only [List.length_nil] at hl7
          subst hl7
          clear h
          rcases hcc with rfl | rfl
          all_goals
            go_wp2_with fail
            go_ret
            exact ⟨rfl, HB7.out⟩
end Go.Proofs.YtlobajlodbdeiaaDoor
