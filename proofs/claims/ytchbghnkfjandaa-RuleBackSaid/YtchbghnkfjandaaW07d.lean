/- The walk of theseuslaw07.RuleBack. -/
import Derived.Test.YtchbghnkfjandaaL07
import Derived.Test.YtchbghnkfjandaaRef07F
import Derived.Test.YtchbghnkfjandaaBlk
import Derived.Deep.DeepCutAuto
import Derived.BigQuiet
namespace Go.Proofs.Ytchbghnkfjandaa
open Go.RowKit
set_option linter.unusedVariables false
set_option linter.unusedSimpArgs false

theorem quiet_few7 {A : Option Addr} {n c m : Nat} (h : Hid (∀ W, Calls Try.prog 12 #[.slice A n c] W fun e w' => e = .returned (.slice A m c) ∧ W = w')) (w : World) :
    Hid (∀ k, Calls Try.prog 12 #[.slice A n c] (w.drewN k) fun e w' => e = .returned (.slice A m c) ∧ w' = w.drewN k) :=
  fun k => (h.out (w.drewN k)).mono fun _ _ ⟨h1, h2⟩ => ⟨h1, h2.symm⟩
theorem str_names {w : World} {v : Value} {bs : List UInt8} (h : IsB w v bs) (s : ByteArray) (hs : (⟨bs.toArray⟩ : ByteArray) = s) : ∀ k, (convert 26 9 v).run Try.prog (w.drewN k) = .ok (.string s) (w.drewN k) := by
  rw [← hs]
  exact str_at h
/-- no beginning of a rule's bytes is a rule -/
theorem take_begin (A : Option Addr) (c q : Nat) (bs : List UInt8) (w : World) (hl : bs.length = 8) (hc : 8 ≤ c) (hm : c ≤ maxLen) (hq : q < 8) (hA : Has w A (vals bs)) :
    Calls Try.prog 11 #[.slice A q c] w fun e w' => e = .returned (.tuple #[.agg #[.int .u32 0, .int .i64 0, .int .i64 0, .int .i64 0], .int .i64 2]) ∧ Below w.heap.size w w' := by
  have h := rultake_any (.slice A q c) (bs.take q) w ⟨_, _, _, rfl, by omega, hm, by rw [List.length_take]; omega, by rw [vals_take]; exact hA.take q⟩
  rw [takeR_short (by rw [List.length_take]; omega)] at h
  exact h
set_option maxRecDepth 100000 in
set_option maxHeartbeats 4000000 in
theorem walkRuleBack (a0 b0 c0 e0 : Int) (a1 : Option Addr) (n1 c1 : Nat) (l1 : List UInt8) (w : World) (w0 : (Lit.int .u32 a0).wf = true) (x0 : (Lit.int .i64 b0).wf = true) (y0 : (Lit.int .i64 c0).wf = true) (z0 : (Lit.int .i64 e0).wf = true) (w1 : InB w a1 n1 c1 l1) :
    Calls Try.prog 4 #[.agg #[.int .u32 a0, .int .i64 b0, .int .i64 c0, .int .i64 e0], .slice a1 n1 c1] w fun e w' => e = .returned (.bool true) ∧ Below w.heap.size w w' := by
  obtain ⟨hl0, hh0⟩ := bounds_u32 w0
  obtain ⟨a, rfl⟩ := Int.eq_ofNat_of_zero_le hl0
  have ha : (a : Int) ≤ 4294967295 := by omega
  clear w0 hl0 hh0 x0 y0 z0
  obtain ⟨m, L, hm30, hL, hmc, hcm, HL0, HFw⟩ := few_pack7 a1 n1 c1 l1 w w1
  obtain ⟨A, k, act, nx, hA, HFit, hk, hcase, HF⟩ := fit_any a b0 c0 e0 256 ha (by omega) (by omega)
  have hact : (act : Int) ≤ 3 := by omega
  have hnx : (nx : Int) ≤ 255 := by omega
  clear hcase HFit w1
  have HF2 : Hid (∀ w, Calls Try.prog 18 #[.agg #[.int .u32 a, .int .i64 b0, .int .i64 c0, .int .i64 e0], .int .i64 256] w fun e w' => e = .returned (.agg #[.int .u32 A, .int .i64 k, .int .i64 act, .int .i64 nx]) ∧ Below w.heap.size w w') := HF
  have P1 := Lib.hid (fun w => rulput_ok A k act nx w hA (by omega) (by omega) (by omega))
  simp only [Int.toNat_natCast] at P1
  have htk := taken_rb A k act nx L (by omega) (by omega) (by omega) (by omega)
  have T1 : Hid (∀ (v : Value) (w : World), IsB w v (rb A k act nx 4 ++ L) → Calls Try.prog 11 #[v] w fun e w' => e = .returned (.tuple #[.agg #[.int .u32 A, .int .i64 k, .int .i64 act, .int .i64 nx], .int .i64 0]) ∧ Below w.heap.size w w') := fun v w hv => by
    have h := rultake_any v _ w hv
    rw [htk] at h
    exact h
  have hrl := rb_length A k act nx
  obtain ⟨bs, hbs⟩ : ∃ bs, rb A k act nx 4 = bs := ⟨_, rfl⟩
  rw [hbs] at hrl P1 T1
  have HRL := Lib.hid hrl
  have HLL := Lib.hid hL
  have HCM := Lib.hid hcm
  have HMC := Lib.hid hmc
  have HI := Lib.hid byte_info
  have tA : ((A : Int) == (A : Int)) = true := by simp
  have tk : ((k : Int) == (k : Int)) = true := by simp
  have tc : ((act : Int) == (act : Int)) = true := by simp
  have tn : ((nx : Int) == (nx : Int)) = true := by simp
  clear HF htk hbs hrl hL hmc hcm
  have HB0 := Lib.hid (Below.refl w.heap.size w)
  go_enter Try.func4, Try.ntmps4
  go_wp2_with fail
  obtain ⟨w1, hW⟩ : ∃ W, w.alloc (.cells #[.int .u32 (a : Int), .int .i64 b0, .int .i64 c0, .int .i64 e0] 24) = W := ⟨_, rfl⟩
  obtain ⟨g, hG⟩ : ∃ G, w.heap.size = G := ⟨_, rfl⟩
  rw [hW, hG]
  have hb : Below w.heap.size w w1 := by subst hW; exact (Below.refl _ _).alloc (Nat.le_refl _) _
  have HB1 := Lib.hid (HB0.out.trans (hb.mono HB0.out.size))
  have Lg : Hid (w.heap.size ≤ g) := by subst hG; exact HB0.out.size
  replace HL0 := Lib.hid (HL0.out.bel hb)
  have Kg : Hid (Blk g #[.int .u32 (a : Int), .int .i64 b0, .int .i64 c0, .int .i64 e0] 24 w1) := by subst hW hG; exact Blk.new _ _ _
  clear hb hW hG HB0
  refine (shown7 w1).mono ?_
  rintro e1 w2 ⟨rfl, hb⟩
  have HB2 := Lib.hid (HB1.out.trans (hb.mono HB1.out.size))
  replace HL0 := Lib.hid (HL0.out.bel hb)
  replace Kg := Lib.hid (Kg.out.bel hb)
  clear hb HB1
  have qg0 := Kg.out.cell 0 rfl
  have qg1 := Kg.out.cell 1 rfl
  have qg2 := Kg.out.cell 2 rfl
  have qg3 := Kg.out.cell 3 rfl
  go_wp2_with fail
  refine (HF2.out w2).mono ?_
  rintro e1 w3 ⟨rfl, hb⟩
  clear qg0 qg1 qg2 qg3
  have HB3 := Lib.hid (HB2.out.trans (hb.mono HB2.out.size))
  replace HL0 := Lib.hid (HL0.out.bel hb)
  replace Kg := Lib.hid (Kg.out.bel hb)
  clear hb HB2
  clear Kg
  go_upto_region 3 with fail
  obtain ⟨w4, hW⟩ : ∃ W, w3.alloc (.cells #[.int .u32 (A : Int), .int .i64 (k : Int), .int .i64 (act : Int), .int .i64 (nx : Int)] 24) = W := ⟨_, rfl⟩
  obtain ⟨G, hG⟩ : ∃ G, w3.heap.size = G := ⟨_, rfl⟩
  rw [hW, hG]
  have hb : Below w3.heap.size w3 w4 := by subst hW; exact (Below.refl _ _).alloc (Nat.le_refl _) _
  have HB4 := Lib.hid (HB3.out.trans (hb.mono HB3.out.size))
  have LG : Hid (w.heap.size ≤ G) := by subst hG; exact HB3.out.size
  replace HL0 := Lib.hid (HL0.out.bel hb)
  have KG : Hid (Blk G #[.int .u32 (A : Int), .int .i64 (k : Int), .int .i64 (act : Int), .int .i64 (nx : Int)] 24 w4) := by subst hW hG; exact Blk.new _ _ _
  clear hb hW hG HB3
  have qG0 := KG.out.cell 0 rfl
  have qG1 := KG.out.cell 1 rfl
  have qG2 := KG.out.cell 2 rfl
  have qG3 := KG.out.cell 3 rfl
  go_wp2_with fail
  refine (P1.out w4).mono ?_
  rintro e1 w5 ⟨p1, rfl, hown, hb⟩
  clear qG0 qG1 qG2 qG3
  have HB5 := Lib.hid (HB4.out.trans (hb.mono HB4.out.size))
  replace HL0 := Lib.hid (HL0.out.bel hb)
  replace KG := Lib.hid (KG.out.bel hb)
  clear hb HB4
  obtain ⟨A1, c1', rfl, h8c, hcx, hA1⟩ := isb_slice (IsB.of_own hown)
  rw [HRL.out] at h8c ⊢
  have HP := Lib.hid hA1
  have HCX := Lib.hid hcx
  have h8i : (8 : Int) ≤ (c1' : Int) := by omega
  clear hown hA1 hcx h8c
  obtain ⟨i0, hi0, hz0, hz1, hz2⟩ := info_parts HI.out
  have HXL : Hid ((vals bs).length = 8) := by show _ = _; rw [vals_length, HRL.out]
  have HYL : Hid ((vals L).length = m) := by show _ = _; rw [vals_length, HLL.out]
  have HOL : Hid ((w5.alloc (.cells #[] 5)).ownsRow w5.heap.size 5 1 (.slice (some ⟨w5.heap.size, 0, none⟩) 0 0) 0 []) := World.ownsRow_lit (e := 5) (size := 1) w5 #[] 0 (Nat.le_refl _) (by decide) rfl
  go_wp2_with (at_builtin; refine wpList_append_has _ rfl (.tmp 28) (.tmp 29) _ rfl w5.heap.size 5 i0 (.int .u8 0) 1 Try.underlying26 hi0 hz0 hz1 hz2 rfl _ 0 [] rfl HOL.out _ 8 _ (vals bs) rfl HXL.out (HP.out.alloc _) (vals_one _) (by unfold maxLen; omega) (by omega) (by simp only [World.size_alloc]; omega) ?_; intro va wa hown2 hgrow2 _; have HO := Lib.hid hown2; have HG := Lib.hid hgrow2; clear hown2 hgrow2)
  have HBa : Hid (Below w5.heap.size w5 wa) := ((Below.refl w5.heap.size w5).alloc (Nat.le_refl _) (.cells #[] 5)).grown HG.out (by simp only [World.size_alloc]; omega) (fun q hq => (HOL.out.lt q hq).1)
  clear HG HOL
  refine (HFw.out _).mono ?_
  rintro e1 wq ⟨rfl, rfl⟩
  go_wp2_with (at_builtin; refine wpList_append_has _ rfl (.tmp 30) (.tmp 32) _ rfl w5.heap.size 5 i0 (.int .u8 0) 1 Try.underlying26 hi0 hz0 hz1 hz2 rfl _ (0 + 8) _ rfl HO.out _ m _ (vals L) rfl HYL.out (HL0.out.bel HBa.out) (vals_one _) (by unfold maxLen; omega) (by omega) HBa.out.size ?_; intro vb wb hown3 hgrow3 _; have HO3 := Lib.hid hown3; have HG3 := Lib.hid hgrow3; clear hown3 hgrow3)
  have hb : Below w5.heap.size w5 wb := HBa.out.grown HG3.out HBa.out.size (fun q hq => (HO.out.lt q hq).1)
  have HB6 := Lib.hid (HB5.out.trans (hb.mono HB5.out.size))
  replace HL0 := Lib.hid (HL0.out.bel hb)
  replace KG := Lib.hid (KG.out.bel hb)
  replace HP := Lib.hid (HP.out.bel hb)
  have HVB : Hid (IsB wb vb (bs ++ L)) := by
    have h := HO3.out
    rw [List.nil_append, ← vals_append] at h
    exact IsB.of_own h
  clear hb HG3 HBa HO HO3 HB5 hi0 hz0 hz1 hz2 HXL HYL
  refine (T1.out vb wb HVB.out).mono ?_
  rintro e1 w7 ⟨rfl, hb⟩
  have HB7 := Lib.hid (HB6.out.trans (hb.mono HB6.out.size))
  replace HL0 := Lib.hid (HL0.out.bel hb)
  replace KG := Lib.hid (KG.out.bel hb)
  replace HP := Lib.hid (HP.out.bel hb)
  clear hb HB6
  clear HVB T1 P1 HF2
  go_upto_region 5 with fail
  obtain ⟨w8, hW⟩ : ∃ W, w7.alloc (.cells #[.int .u32 (A : Int), .int .i64 (k : Int), .int .i64 (act : Int), .int .i64 (nx : Int)] 24) = W := ⟨_, rfl⟩
  obtain ⟨S, hG⟩ : ∃ G, w7.heap.size = G := ⟨_, rfl⟩
  rw [hW, hG]
  have hb : Below w7.heap.size w7 w8 := by subst hW; exact (Below.refl _ _).alloc (Nat.le_refl _) _
  have HB8 := Lib.hid (HB7.out.trans (hb.mono HB7.out.size))
  have LS : Hid (w.heap.size ≤ S) := by subst hG; exact HB7.out.size
  have NGS : Hid (G < S) := by subst hG; exact KG.out.size
  replace HL0 := Lib.hid (HL0.out.bel hb)
  replace KG := Lib.hid (KG.out.bel hb)
  replace HP := Lib.hid (HP.out.bel hb)
  have KS : Hid (Blk S #[.int .u32 (A : Int), .int .i64 (k : Int), .int .i64 (act : Int), .int .i64 (nx : Int)] 24 w8) := by subst hW hG; exact Blk.new _ _ _
  clear hb hW hG HB7
  go_wp2_with fail
  go_loopw [11] (fun i wr => ∃ q : Nat, q ≤ 8 ∧ i = .int .i64 q ∧ Hid (Below w8.heap.size w8 wr)) (fun i _ => 8 - (intOf i).toNat)
  case atStart => exact ⟨0, by omega, rfl, Below.refl _ _⟩
  case round =>
    obtain ⟨q, hq, rfl, HBr⟩ := hrel
    by_cases hlt : q < 8
    · have hqc : (q : Int) ≤ (c1' : Int) := by omega
      have hq8 : (q : Int) < 8 := by omega
      go_wp2_with fail
      refine (take_begin A1 c1' q bs _ HRL.out (by omega) HCX.out hlt (HP.out.bel HBr.out)).mono ?_
      rintro e1 wt ⟨rfl, hb⟩
      have HBt := Lib.hid (HBr.out.trans (hb.mono HBr.out.size))
      clear hb
      go_wp2_with fail
      go_roundw
      case rel => exact ⟨q + 1, by omega, by go_num, HBt.out.alloc HBt.out.size _⟩
      case measure => simp [intOf]; omega
    · obtain rfl : q = 8 := by omega
      clear hlt hq
      have hb := HBr.out
      have HB9 := Lib.hid (HB8.out.trans (hb.mono HB8.out.size))
      replace HL0 := Lib.hid (HL0.out.bel hb)
      replace KG := Lib.hid (KG.out.bel hb)
      replace HP := Lib.hid (HP.out.bel hb)
      replace KS := Lib.hid (KS.out.bel hb)
      clear hb HBr HB8
      by_cases hm8 : 8 ≤ m
      · have hmi : (8 : Int) ≤ (m : Int) := by omega
        have hmc8 : (8 : Int) ≤ (c1 : Int) := by have := HMC.out; omega
        have hmin : min (m : Int) 8 = 8 := by omega
        have hmd : decide ((m : Int) ≥ 8) = true := by simpa using hmi
        have hle := takeR_le L
        have hrb := rb_taken L (by rw [HLL.out]; omega)
        have T2 := Lib.hid (fun w hv => rultake_any (.slice a1 m c1) L w hv)
        have e2 : (takeR L).2 = 0 := by rw [takeR_long (by rw [HLL.out]; omega)]
        rw [e2] at T2
        generalize (takeR L).1.at_ = r0 at *
        generalize (takeR L).1.len = r1 at *
        generalize (takeR L).1.act = r2 at *
        generalize (takeR L).1.nxt = r3 at *
        have P2 := Lib.hid (fun w => rulput_ok r0 r1 r2 r3 w (by omega) (by omega) (by omega) (by omega))
        simp only [Int.toNat_natCast] at P2
        have HL8 := rb_length r0 r1 r2 r3
        rw [hrb] at P2 HL8
        have H8 := Lib.hid HL8
        obtain ⟨s, hs⟩ : ∃ s : ByteArray, (⟨(L.take 8).toArray⟩ : ByteArray) = s := ⟨_, rfl⟩
        have HSS := Lib.hid hs
        have ts : (s.toList == s.toList) = true := by simp
        clear hle hrb e2 hs HL8
        have VL : Hid (IsB wr (.slice a1 m c1) L) := ⟨_, _, _, rfl, HMC.out, HCM.out, HLL.out, HL0.out⟩
        go_wp2_with fail
        refine (HFw.out _).mono ?_
        rintro e1 wq ⟨rfl, rfl⟩
        go_wp2_with fail
        refine (T2.out wr VL.out).mono ?_
        rintro e1 w10 ⟨rfl, hb⟩
        have HB10 := Lib.hid (HB9.out.trans (hb.mono HB9.out.size))
        replace HL0 := Lib.hid (HL0.out.bel hb)
        replace KG := Lib.hid (KG.out.bel hb)
        replace HP := Lib.hid (HP.out.bel hb)
        replace KS := Lib.hid (KS.out.bel hb)
        replace VL := Lib.hid (VL.out.bel hb)
        clear hb HB9
        clear VL
        go_upto_region 12 with fail
        obtain ⟨w11, hW⟩ : ∃ W, w10.alloc (.cells #[.int .u32 (r0 : Int), .int .i64 (r1 : Int), .int .i64 (r2 : Int), .int .i64 (r3 : Int)] 24) = W := ⟨_, rfl⟩
        obtain ⟨R, hG⟩ : ∃ G, w10.heap.size = G := ⟨_, rfl⟩
        rw [hW, hG]
        have hb : Below w10.heap.size w10 w11 := by subst hW; exact (Below.refl _ _).alloc (Nat.le_refl _) _
        have HB11 := Lib.hid (HB10.out.trans (hb.mono HB10.out.size))
        have LR : Hid (w.heap.size ≤ R) := by subst hG; exact HB10.out.size
        have NGR : Hid (G < R) := by subst hG; exact KG.out.size
        have NSR : Hid (S < R) := by subst hG; exact KS.out.size
        replace HL0 := Lib.hid (HL0.out.bel hb)
        replace KG := Lib.hid (KG.out.bel hb)
        replace HP := Lib.hid (HP.out.bel hb)
        replace KS := Lib.hid (KS.out.bel hb)
        have KR : Hid (Blk R #[.int .u32 (r0 : Int), .int .i64 (r1 : Int), .int .i64 (r2 : Int), .int .i64 (r3 : Int)] 24 w11) := by subst hW hG; exact Blk.new _ _ _
        clear hb hW hG HB10
        have qR0 := KR.out.cell 0 rfl
        have qR1 := KR.out.cell 1 rfl
        have qR2 := KR.out.cell 2 rfl
        have qR3 := KR.out.cell 3 rfl
        go_wp2_with fail
        refine (P2.out w11).mono ?_
        rintro e1 w12 ⟨p2, rfl, hown, hb⟩
        clear qR0 qR1 qR2 qR3
        have HB12 := Lib.hid (HB11.out.trans (hb.mono HB11.out.size))
        replace HL0 := Lib.hid (HL0.out.bel hb)
        replace KG := Lib.hid (KG.out.bel hb)
        replace HP := Lib.hid (HP.out.bel hb)
        replace KS := Lib.hid (KS.out.bel hb)
        replace KR := Lib.hid (KR.out.bel hb)
        clear hb HB11
        obtain ⟨A2, c2, rfl, h8c2, hcx2, hA2⟩ := isb_slice (IsB.of_own hown)
        rw [H8.out] at h8c2 ⊢
        have QS1 : ∀ k, (convert 26 9 (.slice A2 8 c2)).run Try.prog (w12.drewN k) = .ok (.string s) (w12.drewN k) := str_names ⟨_, _, _, rfl, h8c2, hcx2, H8.out, hA2⟩ s HSS.out
        have QS2 : ∀ k, (convert 26 9 (.slice a1 8 c1)).run Try.prog (w12.drewN k) = .ok (.string s) (w12.drewN k) := str_names ⟨_, _, _, rfl, by omega, HCM.out, H8.out, by rw [vals_take]; exact HL0.out.take 8⟩ s HSS.out
        have QF := quiet_few7 HFw w12
        clear hown hA2 h8c2 hcx2 P2 T2
        go_upto_region 13 with fail
        go_cut [18] (fun t wx => t = .bool true ∧ Hid (Below w12.heap.size w12 wx))
        case first =>
          go_quiet ((go_at_call 12; with_reducible exact Calls.quiet_of_same (QF.out _)))
          go_wp2_with fail
          go_meet
          exact ⟨rfl, drewN_below (Below.refl _ _) _⟩
        case rest =>
          obtain ⟨rfl, HBc⟩ := hcut
          generalize wc = wz at *
          have hb := HBc.out
          have HB13 := Lib.hid (HB12.out.trans (hb.mono HB12.out.size))
          replace HL0 := Lib.hid (HL0.out.bel hb)
          replace KG := Lib.hid (KG.out.bel hb)
          replace HP := Lib.hid (HP.out.bel hb)
          replace KS := Lib.hid (KS.out.bel hb)
          replace KR := Lib.hid (KR.out.bel hb)
          clear hb HBc QF QS1 QS2
          have qG0 := KG.out.cell 0 rfl
          have qG1 := KG.out.cell 1 rfl
          have qG2 := KG.out.cell 2 rfl
          have qG3 := KG.out.cell 3 rfl
          have qS0 := KS.out.cell 0 rfl
          have qS1 := KS.out.cell 1 rfl
          have qS2 := KS.out.cell 2 rfl
          have qS3 := KS.out.cell 3 rfl
          go_wp2_with fail
          refine (HFw.out _).mono ?_
          rintro e1 wq ⟨rfl, rfl⟩
          go_wp2_with fail
          go_ret
          exact ⟨rfl, HB13.out⟩
      · have hmi : (m : Int) < 8 := by omega
        have hmd : decide ((m : Int) ≥ 8) = false := by simp; omega
        have T2 := Lib.hid (fun w hv => rultake_any (.slice a1 m c1) L w hv)
        rw [takeR_short (by rw [HLL.out]; omega)] at T2
        have P2 := Lib.hid (fun w => rulput_ok 0 0 0 0 w (by omega) (by omega) (by omega) (by omega))
        have H8 := Lib.hid (rb_length 0 0 0 0)
        have VL : Hid (IsB wr (.slice a1 m c1) L) := ⟨_, _, _, rfl, HMC.out, HCM.out, HLL.out, HL0.out⟩
        go_wp2_with fail
        refine (HFw.out _).mono ?_
        rintro e1 wq ⟨rfl, rfl⟩
        go_wp2_with fail
        refine (T2.out wr VL.out).mono ?_
        rintro e1 w10 ⟨rfl, hb⟩
        have HB10 := Lib.hid (HB9.out.trans (hb.mono HB9.out.size))
        replace HL0 := Lib.hid (HL0.out.bel hb)
        replace KG := Lib.hid (KG.out.bel hb)
        replace HP := Lib.hid (HP.out.bel hb)
        replace KS := Lib.hid (KS.out.bel hb)
        replace VL := Lib.hid (VL.out.bel hb)
        clear hb HB9
        clear VL
        go_upto_region 12 with fail
        obtain ⟨w11, hW⟩ : ∃ W, w10.alloc (.cells #[.int .u32 0, .int .i64 0, .int .i64 0, .int .i64 0] 24) = W := ⟨_, rfl⟩
        obtain ⟨R, hG⟩ : ∃ G, w10.heap.size = G := ⟨_, rfl⟩
        rw [hW, hG]
        have hb : Below w10.heap.size w10 w11 := by subst hW; exact (Below.refl _ _).alloc (Nat.le_refl _) _
        have HB11 := Lib.hid (HB10.out.trans (hb.mono HB10.out.size))
        have LR : Hid (w.heap.size ≤ R) := by subst hG; exact HB10.out.size
        have NGR : Hid (G < R) := by subst hG; exact KG.out.size
        have NSR : Hid (S < R) := by subst hG; exact KS.out.size
        replace HL0 := Lib.hid (HL0.out.bel hb)
        replace KG := Lib.hid (KG.out.bel hb)
        replace HP := Lib.hid (HP.out.bel hb)
        replace KS := Lib.hid (KS.out.bel hb)
        have KR : Hid (Blk R #[.int .u32 0, .int .i64 0, .int .i64 0, .int .i64 0] 24 w11) := by subst hW hG; exact Blk.new _ _ _
        clear hb hW hG HB10
        have qR0 := KR.out.cell 0 rfl
        have qR1 := KR.out.cell 1 rfl
        have qR2 := KR.out.cell 2 rfl
        have qR3 := KR.out.cell 3 rfl
        go_wp2_with fail
        refine (P2.out w11).mono ?_
        rintro e1 w12 ⟨p2, rfl, hown, hb⟩
        clear qR0 qR1 qR2 qR3
        have HB12 := Lib.hid (HB11.out.trans (hb.mono HB11.out.size))
        replace HL0 := Lib.hid (HL0.out.bel hb)
        replace KG := Lib.hid (KG.out.bel hb)
        replace HP := Lib.hid (HP.out.bel hb)
        replace KS := Lib.hid (KS.out.bel hb)
        replace KR := Lib.hid (KR.out.bel hb)
        clear hb HB11
        obtain ⟨A2, c2, rfl, h8c2, hcx2, hA2⟩ := isb_slice (IsB.of_own hown)
        rw [show (rb 0 (Int.toNat 0) (Int.toNat 0) (Int.toNat 0) 4).length = 8 from H8.out] at h8c2 ⊢
        have QF := quiet_few7 HFw w12
        clear hown hA2 h8c2 hcx2 P2 T2
        go_upto_region 13 with fail
        go_cut [18] (fun t wx => t = .bool false ∧ Hid (Below w12.heap.size w12 wx))
        case first =>
          go_quiet ((go_at_call 12; with_reducible exact Calls.quiet_of_same (QF.out _)))
          go_wp2_with fail
          go_meet
          exact ⟨rfl, drewN_below (Below.refl _ _) _⟩
        case rest =>
          obtain ⟨rfl, HBc⟩ := hcut
          generalize wc = wz at *
          have hb := HBc.out
          have HB13 := Lib.hid (HB12.out.trans (hb.mono HB12.out.size))
          replace HL0 := Lib.hid (HL0.out.bel hb)
          replace KG := Lib.hid (KG.out.bel hb)
          replace HP := Lib.hid (HP.out.bel hb)
          replace KS := Lib.hid (KS.out.bel hb)
          replace KR := Lib.hid (KR.out.bel hb)
          clear hb HBc QF
          have qG0 := KG.out.cell 0 rfl
          have qG1 := KG.out.cell 1 rfl
          have qG2 := KG.out.cell 2 rfl
          have qG3 := KG.out.cell 3 rfl
          have qS0 := KS.out.cell 0 rfl
          have qS1 := KS.out.cell 1 rfl
          have qS2 := KS.out.cell 2 rfl
          have qS3 := KS.out.cell 3 rfl
          go_wp2_with fail
          refine (HFw.out _).mono ?_
          rintro e1 wq ⟨rfl, rfl⟩
          go_wp2_with fail
          go_ret
          exact ⟨rfl, HB13.out⟩
end Go.Proofs.Ytchbghnkfjandaa
