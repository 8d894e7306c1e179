/- The walk of theseuslaw07.RuleAll. -/
import Derived.Test.YtchbghnkfjandaaL07
import Derived.Test.YtchbghnkfjandaaRef07P
import Derived.Test.YtchbghnkfjandaaRef07T
import Derived.Test.YtchbghnkfjandaaBlk
import Derived.Deep.DeepCutAuto
import Derived.Deep.RegionHeld3
namespace Go.Proofs.Ytchbghnkfjandaa
open Go.RowKit
set_option linter.unusedVariables false
set_option linter.unusedSimpArgs false

/-- a string of bytes, by a letter -/
theorem str_named {w : World} {v : Value} {bs : List UInt8} (h : IsB w v bs) (s : ByteArray) (hs : (⟨bs.toArray⟩ : ByteArray) = s) : (convert 26 9 v).run Try.prog w = .ok (.string s) w := by
  rw [← hs]
  exact str_in h
set_option maxRecDepth 100000 in
set_option maxHeartbeats 8000000 in
theorem walkRuleAll (a0 b0 c0 e0 a0' b0' c0' e0' : Int) (a1 : Int) (a2 : Option Addr) (n2 c2 : Nat) (l2 : List UInt8) (w : World) (w0 : (Lit.int .u32 a0).wf = true ∧ (Lit.int .i64 b0).wf = true ∧ (Lit.int .i64 c0).wf = true ∧ (Lit.int .i64 e0).wf = true) (x0 : (Lit.int .u32 a0').wf = true ∧ (Lit.int .i64 b0').wf = true ∧ (Lit.int .i64 c0').wf = true ∧ (Lit.int .i64 e0').wf = true) (w1 : (Lit.int .i64 a1).wf = true) (w2 : InB w a2 n2 c2 l2) :
    Calls Try.prog 3 #[.agg #[.int .u32 a0, .int .i64 b0, .int .i64 c0, .int .i64 e0, .int .u32 a0', .int .i64 b0', .int .i64 c0', .int .i64 e0'], .int .i64 a1, .slice a2 n2 c2] w fun e w' => e = .returned (.bool true) ∧ Below w.heap.size w w' := by
  obtain ⟨u0, u1, u2, u3⟩ := w0
  obtain ⟨hl0, hh0⟩ := bounds_u32 u0
  obtain ⟨a, rfl⟩ := Int.eq_ofNat_of_zero_le hl0
  have ha : (a : Int) ≤ 4294967295 := by omega
  obtain ⟨v0, v1, v2, v3⟩ := x0
  obtain ⟨hl1, hh1⟩ := bounds_u32 v0
  obtain ⟨b, rfl⟩ := Int.eq_ofNat_of_zero_le hl1
  have hb : (b : Int) ≤ 4294967295 := by omega
  clear u0 v0 hl0 hh0 hl1 hh1 v1 v2 v3 w1
  obtain ⟨m, L, hm30, hL, hmc, hcm, HH, HFw⟩ := few_pack7 a2 n2 c2 l2 w w2
  have VB : Hid (IsB w (.slice a2 m c2) L) := ⟨_, _, _, rfl, hmc, hcm, hL, HH.out⟩
  have P1 := Lib.hid (fun w => rulput_any a b0 c0 e0 w ha)
  have P2 := Lib.hid (fun w => rrulput_any a b0 c0 e0 w ha u1 u2 u3)
  have T1 := Lib.hid (fun w hv => rultake_any (.slice a2 m c2) L w hv)
  have T2 := Lib.hid (fun w hv => rrultake_any (.slice a2 m c2) L w hv)
  have M1 := Lib.hid (fun w => mayr_any a b0 c0 e0 a1 w ha)
  have M2 := Lib.hid (fun w => rmayr_any a b0 c0 e0 a1 w ha)
  have C1 := Lib.hid (fun w => compr_any a b b0 c0 e0 b0' c0' e0' w)
  have C2 := Lib.hid (fun w => rcompr_any a b b0 c0 e0 b0' c0' e0' w)
  generalize (putR a b0 c0 e0).1 = bs at *
  generalize (putR a b0 c0 e0).2 = pc at *
  generalize (takeR L).1.at_ = r0 at *
  generalize (takeR L).1.len = r1 at *
  generalize (takeR L).1.act = r2 at *
  generalize (takeR L).1.nxt = r3 at *
  generalize (takeR L).2 = tc at *
  generalize mayR a b0 c0 e0 a1 = mr at *
  generalize cmpI a b0 b b0' = cr at *
  obtain ⟨s, hs⟩ : ∃ s : ByteArray, (⟨bs.toArray⟩ : ByteArray) = s := ⟨_, rfl⟩
  have HSS := Lib.hid hs
  have t1 : (mr == mr) = true := by simp
  have t2 : (cr == cr) = true := by simp
  have t3 : (s.toList == s.toList) = true := by simp
  have t4 : (pc == pc) = true := by simp
  have t5 : (tc == tc) = true := by simp
  have t6 : ((r0 : Int) == (r0 : Int)) = true := by simp
  have t7 : ((r1 : Int) == (r1 : Int)) = true := by simp
  have t8 : ((r2 : Int) == (r2 : Int)) = true := by simp
  have t9 : ((r3 : Int) == (r3 : Int)) = true := by simp
  clear u1 u2 u3 hs HH hmc hcm hL
  have HB0 := Lib.hid (Below.refl w.heap.size w)
  go_enter Try.func3, Try.ntmps3
  go_wp2_with fail
  obtain ⟨w1, hW⟩ : ∃ W, w.alloc (.cells #[.int .u32 (a : Int), .int .i64 b0, .int .i64 c0, .int .i64 e0, .int .u32 (b : Int), .int .i64 b0', .int .i64 c0', .int .i64 e0'] 25) = W := ⟨_, rfl⟩
  obtain ⟨g, hG⟩ : ∃ G, w.heap.size = G := ⟨_, rfl⟩
  rw [hW, hG]
  have hb : Below w.heap.size w w1 := by subst hW; exact (Below.refl _ _).alloc (Nat.le_refl _) _
  have HB1 := Lib.hid (HB0.out.trans (hb.mono HB0.out.size))
  have Lg : Hid (w.heap.size ≤ g) := by subst hG; exact HB0.out.size
  replace VB := Lib.hid (VB.out.bel hb)
  have Kg : Hid (Blk g #[.int .u32 (a : Int), .int .i64 b0, .int .i64 c0, .int .i64 e0, .int .u32 (b : Int), .int .i64 b0', .int .i64 c0', .int .i64 e0'] 25 w1) := by subst hW hG; exact Blk.new _ _ _
  clear hb hW hG HB0
  refine (shown7 w1).mono ?_
  rintro e1 w2 ⟨rfl, hb⟩
  have HB2 := Lib.hid (HB1.out.trans (hb.mono HB1.out.size))
  replace VB := Lib.hid (VB.out.bel hb)
  replace Kg := Lib.hid (Kg.out.bel hb)
  clear hb HB1
  have qg0 := Kg.out.cell 0 rfl
  have qg1 := Kg.out.cell 1 rfl
  have qg2 := Kg.out.cell 2 rfl
  have qg3 := Kg.out.cell 3 rfl
  go_wp2_with fail
  refine (P1.out w2).mono ?_
  rintro e1 w3 ⟨p1, rfl, hv, hb⟩
  clear qg0 qg1 qg2 qg3
  have HB3 := Lib.hid (HB2.out.trans (hb.mono HB2.out.size))
  replace VB := Lib.hid (VB.out.bel hb)
  replace Kg := Lib.hid (Kg.out.bel hb)
  have V1 := Lib.hid (hv)
  clear hb HB2
  clear hv
  have qg0 := Kg.out.cell 0 rfl
  have qg1 := Kg.out.cell 1 rfl
  have qg2 := Kg.out.cell 2 rfl
  have qg3 := Kg.out.cell 3 rfl
  go_wp2_with fail
  refine (P2.out w3).mono ?_
  rintro e1 w4 ⟨p2, rfl, hv, hb⟩
  clear qg0 qg1 qg2 qg3
  have HB4 := Lib.hid (HB3.out.trans (hb.mono HB3.out.size))
  replace VB := Lib.hid (VB.out.bel hb)
  replace Kg := Lib.hid (Kg.out.bel hb)
  replace V1 := Lib.hid (V1.out.bel hb)
  have V2 := Lib.hid (hv)
  clear hb HB3
  clear hv
  go_wp2_with fail
  refine (HFw.out _).mono ?_
  rintro e1 wq ⟨rfl, rfl⟩
  go_wp2_with fail
  refine (T1.out w4 VB.out).mono ?_
  rintro e1 w5 ⟨rfl, hb⟩
  have HB5 := Lib.hid (HB4.out.trans (hb.mono HB4.out.size))
  replace VB := Lib.hid (VB.out.bel hb)
  replace Kg := Lib.hid (Kg.out.bel hb)
  replace V1 := Lib.hid (V1.out.bel hb)
  replace V2 := Lib.hid (V2.out.bel hb)
  clear hb HB4
  go_upto_region 5 with fail
  obtain ⟨w6, hW⟩ : ∃ W, w5.alloc (.cells #[.int .u32 (r0 : Int), .int .i64 (r1 : Int), .int .i64 (r2 : Int), .int .i64 (r3 : Int)] 24) = W := ⟨_, rfl⟩
  obtain ⟨R, hG⟩ : ∃ G, w5.heap.size = G := ⟨_, rfl⟩
  rw [hW, hG]
  have hb : Below w5.heap.size w5 w6 := by subst hW; exact (Below.refl _ _).alloc (Nat.le_refl _) _
  have HB6 := Lib.hid (HB5.out.trans (hb.mono HB5.out.size))
  have LR : Hid (w.heap.size ≤ R) := by subst hG; exact HB5.out.size
  have NgR : Hid (g < R) := by subst hG; exact Kg.out.size
  replace VB := Lib.hid (VB.out.bel hb)
  replace Kg := Lib.hid (Kg.out.bel hb)
  replace V1 := Lib.hid (V1.out.bel hb)
  replace V2 := Lib.hid (V2.out.bel hb)
  have KR : Hid (Blk R #[.int .u32 (r0 : Int), .int .i64 (r1 : Int), .int .i64 (r2 : Int), .int .i64 (r3 : Int)] 24 w6) := by subst hW hG; exact Blk.new _ _ _
  clear hb hW hG HB5
  go_wp2_with fail
  refine (HFw.out _).mono ?_
  rintro e1 wq ⟨rfl, rfl⟩
  go_wp2_with fail
  refine (T2.out w6 VB.out).mono ?_
  rintro e1 w7 ⟨rfl, hb⟩
  have HB7 := Lib.hid (HB6.out.trans (hb.mono HB6.out.size))
  replace VB := Lib.hid (VB.out.bel hb)
  replace Kg := Lib.hid (Kg.out.bel hb)
  replace V1 := Lib.hid (V1.out.bel hb)
  replace V2 := Lib.hid (V2.out.bel hb)
  replace KR := Lib.hid (KR.out.bel hb)
  clear hb HB6
  go_upto_region 6 with fail
  obtain ⟨w8, hW⟩ : ∃ W, w7.alloc (.cells #[.int .u32 (r0 : Int), .int .i64 (r1 : Int), .int .i64 (r2 : Int), .int .i64 (r3 : Int)] 24) = W := ⟨_, rfl⟩
  obtain ⟨S, hG⟩ : ∃ G, w7.heap.size = G := ⟨_, rfl⟩
  rw [hW, hG]
  have hb : Below w7.heap.size w7 w8 := by subst hW; exact (Below.refl _ _).alloc (Nat.le_refl _) _
  have HB8 := Lib.hid (HB7.out.trans (hb.mono HB7.out.size))
  have LS : Hid (w.heap.size ≤ S) := by subst hG; exact HB7.out.size
  have NgS : Hid (g < S) := by subst hG; exact Kg.out.size
  have NRS : Hid (R < S) := by subst hG; exact KR.out.size
  replace VB := Lib.hid (VB.out.bel hb)
  replace Kg := Lib.hid (Kg.out.bel hb)
  replace V1 := Lib.hid (V1.out.bel hb)
  replace V2 := Lib.hid (V2.out.bel hb)
  replace KR := Lib.hid (KR.out.bel hb)
  have KS : Hid (Blk S #[.int .u32 (r0 : Int), .int .i64 (r1 : Int), .int .i64 (r2 : Int), .int .i64 (r3 : Int)] 24 w8) := by subst hW hG; exact Blk.new _ _ _
  clear hb hW hG HB7
  have HN : Hid (∀ wx, Below w8.heap.size w8 wx → wx.cell? ⟨g, 0, none⟩ = some (.int .u32 (a : Int)) ∧ wx.cell? ⟨g, 1, none⟩ = some (.int .i64 b0) ∧ wx.cell? ⟨g, 2, none⟩ = some (.int .i64 c0) ∧ wx.cell? ⟨g, 3, none⟩ = some (.int .i64 e0) ∧ wx.cell? ⟨g, 4, none⟩ = some (.int .u32 (b : Int)) ∧ wx.cell? ⟨g, 5, none⟩ = some (.int .i64 b0') ∧ wx.cell? ⟨g, 6, none⟩ = some (.int .i64 c0') ∧ wx.cell? ⟨g, 7, none⟩ = some (.int .i64 e0') ∧ wx.cell? ⟨R, 0, none⟩ = some (.int .u32 (r0 : Int)) ∧ wx.cell? ⟨R, 1, none⟩ = some (.int .i64 (r1 : Int)) ∧ wx.cell? ⟨R, 2, none⟩ = some (.int .i64 (r2 : Int)) ∧ wx.cell? ⟨R, 3, none⟩ = some (.int .i64 (r3 : Int)) ∧ wx.cell? ⟨S, 0, none⟩ = some (.int .u32 (r0 : Int)) ∧ wx.cell? ⟨S, 1, none⟩ = some (.int .i64 (r1 : Int)) ∧ wx.cell? ⟨S, 2, none⟩ = some (.int .i64 (r2 : Int)) ∧ wx.cell? ⟨S, 3, none⟩ = some (.int .i64 (r3 : Int)) ∧ (convert 26 9 p1).run Try.prog wx = .ok (.string s) wx ∧ (convert 26 9 p2).run Try.prog wx = .ok (.string s) wx) := fun wx hx => ⟨(Kg.out.bel hx).cell 0 rfl, (Kg.out.bel hx).cell 1 rfl, (Kg.out.bel hx).cell 2 rfl, (Kg.out.bel hx).cell 3 rfl, (Kg.out.bel hx).cell 4 rfl, (Kg.out.bel hx).cell 5 rfl, (Kg.out.bel hx).cell 6 rfl, (Kg.out.bel hx).cell 7 rfl, (KR.out.bel hx).cell 0 rfl, (KR.out.bel hx).cell 1 rfl, (KR.out.bel hx).cell 2 rfl, (KR.out.bel hx).cell 3 rfl, (KS.out.bel hx).cell 0 rfl, (KS.out.bel hx).cell 1 rfl, (KS.out.bel hx).cell 2 rfl, (KS.out.bel hx).cell 3 rfl, str_named (V1.out.bel hx) s HSS.out, str_named (V2.out.bel hx) s HSS.out⟩
  obtain ⟨k0, k1, k2, k3, k4, k5, k6, k7, k8, k9, k10, k11, k12, k13, k14, k15, k16, k17⟩ := HN.out w8 (Below.refl _ _)
  have HD := Lib.hid (Below.refl w8.heap.size w8).drew
  have kd1 : (convert 26 9 p1).run Try.prog w8.drew = .ok (.string s) w8.drew := str_named (V1.out.bel HD.out) s HSS.out
  have kd2 : (convert 26 9 p2).run Try.prog w8.drew = .ok (.string s) w8.drew := str_named (V2.out.bel HD.out) s HSS.out
  clear Kg KR KS V1 V2 VB P1 P2 T1 T2 HSS HFw
  go_cut [6] (fun r wx => r = .bool true ∧ Hid (Below w8.heap.size w8 wx))
  case first =>
    go_region_held3 (fun w' => w'.cell? ⟨g, 0, none⟩ = some (.int .u32 (a : Int)) ∧ w'.cell? ⟨g, 1, none⟩ = some (.int .i64 b0) ∧ w'.cell? ⟨g, 2, none⟩ = some (.int .i64 c0) ∧ w'.cell? ⟨g, 3, none⟩ = some (.int .i64 e0) ∧ w'.cell? ⟨g, 4, none⟩ = some (.int .u32 (b : Int)) ∧ w'.cell? ⟨g, 5, none⟩ = some (.int .i64 b0') ∧ w'.cell? ⟨g, 6, none⟩ = some (.int .i64 c0') ∧ w'.cell? ⟨g, 7, none⟩ = some (.int .i64 e0') ∧ w'.cell? ⟨R, 0, none⟩ = some (.int .u32 (r0 : Int)) ∧ w'.cell? ⟨R, 1, none⟩ = some (.int .i64 (r1 : Int)) ∧ w'.cell? ⟨R, 2, none⟩ = some (.int .i64 (r2 : Int)) ∧ w'.cell? ⟨R, 3, none⟩ = some (.int .i64 (r3 : Int)) ∧ w'.cell? ⟨S, 0, none⟩ = some (.int .u32 (r0 : Int)) ∧ w'.cell? ⟨S, 1, none⟩ = some (.int .i64 (r1 : Int)) ∧ w'.cell? ⟨S, 2, none⟩ = some (.int .i64 (r2 : Int)) ∧ w'.cell? ⟨S, 3, none⟩ = some (.int .i64 (r3 : Int)) ∧ (convert 26 9 p1).run Try.prog w' = .ok (.string s) w' ∧ (convert 26 9 p2).run Try.prog w' = .ok (.string s) w')
      (first | go_keep | exact HN.out _ D4.out | exact HN.out _ D3.out | exact HN.out _ D2.out | exact HN.out _ D1.out | exact HN.out _ HD.out)
      (first
        | (go_simp; go_at_call 14; refine (M1.out _).mono ?_; rintro e w21 ⟨rfl, hb1⟩; have D1 := Lib.hid (HD.out.trans (hb1.mono HD.out.size)); clear hb1)
        | (go_simp; go_at_call 15; refine (M2.out _).mono ?_; rintro e w22 ⟨rfl, hb2⟩; have D2 := Lib.hid (D1.out.trans (hb2.mono D1.out.size)); clear hb2)
        | (go_simp; go_at_call 16; refine (C1.out _).mono ?_; rintro e w23 ⟨rfl, hb3⟩; have D3 := Lib.hid (D2.out.trans (hb3.mono D2.out.size)); clear hb3)
        | (go_simp; go_at_call 17; refine (C2.out _).mono ?_; rintro e w24 ⟨rfl, hb4⟩; have D4 := Lib.hid (D3.out.trans (hb4.mono D3.out.size)); clear hb4))
    all_goals
      go_wp2_with fail
      go_meet
      exact ⟨rfl, D4⟩
  case rest =>
    obtain ⟨rfl, HBc⟩ := hcut
    go_wp2_with fail
    go_ret
    exact ⟨rfl, HB8.out.trans (HBc.out.mono HB8.out.size)⟩
end Go.Proofs.Ytchbghnkfjandaa
