/- The walks of the laws of package theseuslaw04: FrameAll. -/
import Derived.Test.YtlobajlodbdeiaaDoorL04
import Derived.Test.YtlobajlodbdeiaaDoorFrmT
import Derived.Test.YtlobajlodbdeiaaDoorRef04b
import Derived.Deep.DeepCutAuto
import Derived.Deep.RegionHeld3
import Derived.Laws.BitsAllLaws
namespace Go.Proofs.YtlobajlodbdeiaaDoor
open Go.RowKit
set_option linter.unusedVariables false
set_option linter.unusedSimpArgs false

theorem wpAnyH_mono {P : Program} {ops : Array Oper} {Q : Exit → Act → World → Prop} {md : Region.Mode} {S S' : World → Prop} (hSS : ∀ w, S' w → S w) :
    ∀ (fuel : Nat) (listed : Array Bool) (a : Act) (w : World), wpAnyH P md ops Q S' fuel listed a w → wpAnyH P md ops Q S fuel listed a w
  | 0, _, _, _, h => h
  | fuel + 1, _, _, _, h => ⟨h.1, fun i hi => wpOp_mono (fun a' w' h' => ⟨hSS _ h'.1, wpAnyH_mono hSS fuel _ a' w' h'.2⟩) (h.2 i hi)⟩
set_option maxRecDepth 100000 in
set_option maxHeartbeats 40000000 in
theorem walkFrameAll (a0 : Option Addr) (n0 c0 : Nat) (l0 : List UInt8) (a1 : Option Addr) (n1 c1 : Nat) (l1 : List UInt8) (a2 : Int) (w : World) (ht : Hid (Tab w)) (w0 : InB w a0 n0 c0 l0) (w1 : InB w a1 n1 c1 l1) (w2 : (Lit.int .u32 a2).wf = true) :
    Calls Tryd.prog 3 #[.slice a0 n0 c0, .slice a1 n1 c1, .int .u32 a2] w fun e w' => e = .returned (.bool true) ∧ Below w.heap.size w w' := by
  obtain ⟨m0, X, hm0, hlx, hmc0, hmx0, HX, FX⟩ := few_pack a0 n0 c0 l0 w w0
  obtain ⟨m1, Y, hm1, hly, hmc1, hmx1, HY, FY⟩ := few_pack a1 n1 c1 l1 w w1
  obtain ⟨ha0, ha1⟩ := bounds_u32 w2
  obtain ⟨M, rfl⟩ := Int.eq_ofNat_of_zero_le ha0
  have hM : (M : Int) ≤ 4294967295 := by omega
  have HHA := Lib.hid w1.has
  have HHL := Lib.hid w1.len
  have hn1m := w1.cap
  have hc1m := w1.max
  clear w0 w1 w2 ha0 ha1
  have HLX := Lib.hid hlx
  have HLY := Lib.hid hly
  have HMX0 := Lib.hid hmx0
  have HMX1 := Lib.hid hmx1
  clear hlx hly hmx0 hmx1
  obtain ⟨C, hC⟩ : ∃ C, C = UInt8.ofNat M := ⟨_, rfl⟩
  have HC : Hid ((M : Int) % 256 = (C.toNat : Int)) := by show _ = _; rw [hC, toNat_ofNat_mod]; omega
  clear hC
  go_enter Tryd.func3, Tryd.ntmps3
  go_wp2_with fail
  refine (shown4 _).mono ?_
  rintro e w1 ⟨rfl, hb1⟩
  have HB1 := Lib.hid hb1
  have HT1 := Lib.hid (ht.out.bel hb1)
  have HX1 : Hid (IsB w1 (.slice a0 m0 c0) X) := ⟨_, _, _, rfl, hmc0, HMX0.out, HLX.out, HX.out.bel hb1⟩
  have HY1 : Hid (IsB w1 (.slice a1 m1 c1) Y) := ⟨_, _, _, rfl, hmc1, HMX1.out, HLY.out, HY.out.bel hb1⟩
  have HL1x : Hid ((X.length : Int) ≤ 1099511627776) := by show _ ≤ _; rw [HLX.out]; omega
  have HL1y : Hid ((Y.length : Int) ≤ 1099511627776) := by show _ ≤ _; rw [HLY.out]; omega
  clear hb1 HX HY ht
  go_wp2_with fail
  refine (FY.out _).mono ?_
  rintro e w' ⟨rfl, rfl⟩
  go_wp2_with fail
  refine (ftake_any M _ Y _ hM HY1.out HL1y.out HT1).mono ?_
  rintro e w2 ⟨v2, rfl, hv2, hb2⟩
  have HR2 := Lib.hid hv2
  have HBA2 := Lib.hid hb2
  have HY2 := Lib.hid (HY1.out.bel hb2)
  clear hv2 hb2
  go_wp2_with fail
  refine (FY.out _).mono ?_
  rintro e w' ⟨rfl, rfl⟩
  go_wp2_with fail
  refine (rftake_any M _ Y _ hM HY2.out HL1y.out).mono ?_
  rintro e w3 ⟨v3, rfl, hv3, hb3⟩
  have HR3 := Lib.hid hv3
  have HR2' := Lib.hid (HR2.out.bel hb3)
  have HBA3 := Lib.hid (HBA2.out.trans (hb3.mono HBA2.out.size))
  clear hv3 hb3 HBA2 HR2 HY2
  have HX3 := Lib.hid (HX1.out.bel HBA3.out)
  go_wp2_with fail
  refine (FX.out _).mono ?_
  rintro e w' ⟨rfl, rfl⟩
  go_wp2_with fail
  rw [HC.out]
  refine (section_any C _ X _ HX3.out HL1x.out).mono ?_
  rintro e w4 ⟨v4, rfl, hv4, hb4⟩
  have HR4 := Lib.hid hv4
  have HR24 := Lib.hid (HR2'.out.bel hb4)
  have HR34 := Lib.hid (HR3.out.bel hb4)
  have HX4 := Lib.hid (HX3.out.bel hb4)
  have HBA4 := Lib.hid (HBA3.out.trans (hb4.mono HBA3.out.size))
  clear hv4 hb4 HBA3 HR2' HR3 HX3
  go_wp2_with fail
  refine (FX.out _).mono ?_
  rintro e w' ⟨rfl, rfl⟩
  go_wp2_with fail
  try rw [HC.out]
  refine (rsection_any C _ X _ HX4.out HL1x.out).mono ?_
  rintro e w5 ⟨v5, rfl, hv5, hb5⟩
  have HR5 := Lib.hid hv5
  have HR45 := Lib.hid (HR4.out.bel hb5)
  have HR25 := Lib.hid (HR24.out.bel hb5)
  have HR35 := Lib.hid (HR34.out.bel hb5)
  have HBA5 := Lib.hid (HBA4.out.trans (hb5.mono HBA4.out.size))
  clear hv5 hb5 HBA4 HR4 HR24 HR34 HX4
  go_upto_region 7 with fail
  go_cut [64] (fun v wx => ∃ q : Bool, v = .bool q ∧ (q = true → 0 < n1) ∧ wx = w5)
  case first =>
    by_cases h1 : n1 % 2 = 0
    · have h2 : ((n1 : Int) % 2 == 0) = true := by rw [beq_iff_eq]; omega
      by_cases h3 : 0 < n1
      · have h4 : decide ((n1 : Int) > 0) = true := decide_eq_true (by omega)
        go_wp2_with fail
        go_meet
        exact ⟨true, by go_num, fun _ => h3, rfl⟩
      · have h4 : decide ((n1 : Int) > 0) = false := decide_eq_false (by omega)
        go_wp2_with fail
        go_meet
        exact ⟨false, by go_num, by simp, rfl⟩
    · have h2 : ((n1 : Int) % 2 == 0) = false := by rw [beq_eq_false_iff_ne]; omega
      go_wp2_with fail
      go_meet
      exact ⟨false, by go_num, by simp, rfl⟩
  case rest =>
    obtain ⟨q, rfl, hq, rfl⟩ := hcut
    go_upto_if 64 with fail
    go_cut [16] (fun v wx => ∃ D : UInt8, v = .int .u8 (D.toNat : Int) ∧ wx = wc)
    case first =>
      cases q
      · go_wp2_with fail
        go_meet
        exact ⟨C, by rw [HC.out], rfl⟩
      · have h3 := hq rfl
        obtain ⟨ad, rfl, hcell⟩ := HHA.out.at_ (k := 0) (by rw [vals_length, HHL.out]; exact h3)
        have hl0 : 0 < l1.length := by rw [HHL.out]; exact h3
        have hcell2 : wc.cell? ad = some (.int .u8 ((l1[0]'hl0).toNat : Int)) := by
          rw [addr_zero] at hcell
          have h5 : (vals l1)[0]'(by rw [vals_length]; exact hl0) = .int .u8 ((l1[0]'hl0).toNat : Int) := vals_at l1 0 hl0
          rw [h5] at hcell
          have h6 := World.block_lt_of_cell? w _ hcell
          rw [(HB1.out.trans (HBA5.out.mono HB1.out.size)).cell h6]
          exact hcell
        clear hcell
        have h0n : (0 : Int) < (n1 : Int) := by omega
        go_wp2_with fail
        go_meet
        exact ⟨l1[0]'hl0, rfl, rfl⟩
    case rest =>
      obtain ⟨D, rfl, rfl⟩ := hcut
      clear hq HHA HHL hn1m hc1m HC
      generalize takeF M Y = p at *
      generalize sectF C X = r at *
      have HY5 := Lib.hid (HY1.out.bel HBA5.out)
      have HX5 := Lib.hid (HX1.out.bel HBA5.out)
      have HT5 := Lib.hid (HT1.out.bel HBA5.out)
      have HB5 := Lib.hid (HB1.out.trans (HBA5.out.mono HB1.out.size))
      clear HY1 HX1 HT1 HB1 HBA5
      go_wp2_with fail
      refine (FY.out _).mono ?_
      rintro e w' ⟨rfl, rfl⟩
      go_wp2_with fail
      refine (open_any D _ Y _ HY5.out HL1y.out).mono ?_
      rintro e w6 ⟨x6, y6, rfl, hx6, hy6, hb6⟩
      have HI6 := Lib.hid hx6
      have HJ6 := Lib.hid hy6
      have HBB6 := Lib.hid hb6
      have HY6 := Lib.hid (HY5.out.bel hb6)
      clear hx6 hy6 hb6 HY5
      go_wp2_with fail
      refine (FY.out _).mono ?_
      rintro e w' ⟨rfl, rfl⟩
      go_wp2_with fail
      refine (ropen_any D _ Y _ HY6.out HL1y.out).mono ?_
      rintro e w7 ⟨x7, y7, rfl, hx7, hy7, hb7⟩
      have HBB7 := Lib.hid (HBB6.out.trans (hb7.mono HBB6.out.size))
      have HB7 := Lib.hid (HB5.out.trans (HBB7.out.mono HB5.out.size))
      have HALL : Hid (∀ wx, Below w7.heap.size w7 wx → (IsB wx x7 (openF D Y).1 ∧ IsB wx y7 (openF D Y).2.1) ∧ (IsB wx x6 (openF D Y).1 ∧ IsB wx y6 (openF D Y).2.1) ∧ (IsB wx v2 p.1 ∧ IsB wx v3 p.1) ∧ (IsB wx v4 r.1 ∧ IsB wx v5 r.1)) := fun wx hb =>
        ⟨⟨hx7.bel hb, hy7.bel hb⟩, ⟨(HI6.out.bel hb7).bel hb, (HJ6.out.bel hb7).bel hb⟩, ⟨(HR25.out.bel HBB7.out).bel hb, (HR35.out.bel HBB7.out).bel hb⟩, ⟨(HR45.out.bel HBB7.out).bel hb, (HR5.out.bel HBB7.out).bel hb⟩⟩
      have HX7 := Lib.hid (HX5.out.bel HBB7.out)
      have HT7 := Lib.hid (HT5.out.bel HBB7.out)
      obtain ⟨F, hF⟩ : ∃ F, frameN M X = F := ⟨_, rfl⟩
      have CP : Hid (Calls Tryd.prog 17 #[.int .u32 (M : Int), .slice a0 m0 c0] w7.drew fun e w' => ∃ v', e = .returned v' ∧ IsB w' v' F ∧ Below w7.heap.size w7 w') := by
        refine (fput_any M (.slice a0 m0 c0) X w7.drew hM HX7.out HL1x.out (Lib.hid HT7.out)).mono ?_
        rintro e w' ⟨v', rfl, ho, hb⟩
        rw [hF] at ho
        exact ⟨v', rfl, IsB.of_own ho, ⟨hb.os, hb.tape, hb.output, hb.size, hb.block⟩⟩
      have CR : Hid (∀ wx, Below w7.heap.size w7 wx → Calls Tryd.prog 18 #[.int .u32 (M : Int), .slice a0 m0 c0] wx fun e w' => ∃ v', e = .returned v' ∧ IsB w' v' F ∧ Below wx.heap.size wx w') := fun wx hb => by
        refine (rfput_any M (.slice a0 m0 c0) X wx hM (HX7.out.bel hb) HL1x.out).mono ?_
        rintro e w' ⟨v', rfl, ho, hb⟩
        rw [hF] at ho
        exact ⟨v', rfl, ho, hb⟩
      generalize openF D Y = o at *
      obtain ⟨o1, o2, o3⟩ := o
      obtain ⟨p1, p2⟩ := p
      obtain ⟨r1, r2⟩ := r
      have HS : Hid (∀ w', Below w7.heap.size w7 w' → (convert 22 9 v2).run Tryd.prog w' = .ok (.string ⟨p1.toArray⟩) w' ∧ (convert 22 9 v3).run Tryd.prog w' = .ok (.string ⟨p1.toArray⟩) w' ∧ (convert 22 9 v4).run Tryd.prog w' = .ok (.string ⟨r1.toArray⟩) w' ∧ (convert 22 9 v5).run Tryd.prog w' = .ok (.string ⟨r1.toArray⟩) w' ∧ (convert 22 9 x6).run Tryd.prog w' = .ok (.string ⟨o1.toArray⟩) w' ∧ (convert 22 9 x7).run Tryd.prog w' = .ok (.string ⟨o1.toArray⟩) w' ∧ (convert 22 9 y6).run Tryd.prog w' = .ok (.string ⟨o2.toArray⟩) w' ∧ (convert 22 9 y7).run Tryd.prog w' = .ok (.string ⟨o2.toArray⟩) w') := fun w' hb =>
        have h := HALL.out w' hb
        ⟨str_in h.2.2.1.1, str_in h.2.2.1.2, str_in h.2.2.2.1, str_in h.2.2.2.2, str_in h.2.1.1, str_in h.1.1, str_in h.2.1.2, str_in h.1.2⟩
      have HD7 : Hid (Below w7.heap.size w7 w7.drew) := drewN_below (Below.refl _ _) 1
      clear hx7 hy7 hb7 HI6 HJ6 HR25 HR35 HR45 HR5 HBB7 HBB6 HY6 HX5 HT5 HB5 hF HX7 HT7 HL1x HL1y FY HALL
      go_wp2_with fail
      refine wp_region_held_drew (S := fun w' => (convert 22 9 v2).run Tryd.prog w' = .ok (.string ⟨p1.toArray⟩) w' ∧ (convert 22 9 v3).run Tryd.prog w' = .ok (.string ⟨p1.toArray⟩) w' ∧ (convert 22 9 v4).run Tryd.prog w' = .ok (.string ⟨r1.toArray⟩) w' ∧ (convert 22 9 v5).run Tryd.prog w' = .ok (.string ⟨r1.toArray⟩) w' ∧ (convert 22 9 x6).run Tryd.prog w' = .ok (.string ⟨o1.toArray⟩) w' ∧ (convert 22 9 x7).run Tryd.prog w' = .ok (.string ⟨o1.toArray⟩) w' ∧ (convert 22 9 y6).run Tryd.prog w' = .ok (.string ⟨o2.toArray⟩) w' ∧ (convert 22 9 y7).run Tryd.prog w' = .ok (.string ⟨o2.toArray⟩) w') (by kernel_rfl) (HS.out _ HD7.out) (fun hHeld => ?_)
      refine wpAnyH_take (i := 0) (oi := ({ dst := some 84, op := Op.move (Operand.tmp 7), type := 4, pos := "law.go:35", after := #[], guard := none } : Oper)) (v := ?_) rfl (by kernel_rfl) (by kernel_rfl) (by kernel_rfl) (fun _ _ _ h => h) (Or.inl ⟨by rfl, ?_⟩) (by assumption) ?_
      rotate_left 1
      · intro w hSw
        (try dsimp only at hSw)
        go_simp
        try with_reducible rfl
      try simp only [Act.put, List.setIfInBounds_toArray, List.set_cons_zero, List.set_cons_succ]
      refine wpAnyH_take (i := 1) (oi := ({ dst := some 85, op := Op.move (Operand.tmp 84), type := 4, pos := "law.go:35", after := #[{ on := 0, ground := Ground.data }], guard := none } : Oper)) (v := ?_) rfl (by kernel_rfl) (by kernel_rfl) (by kernel_rfl) (fun _ _ _ h => h) (Or.inl ⟨by rfl, ?_⟩) (by assumption) ?_
      rotate_left 1
      · intro w hSw
        (try dsimp only at hSw)
        go_simp
        try with_reducible rfl
      try simp only [Act.put, List.setIfInBounds_toArray, List.set_cons_zero, List.set_cons_succ]
      refine wpAnyH_take (i := 2) (oi := ({ dst := some 86, op := Op.move (Operand.tmp 2), type := 23, pos := "law.go:35", after := #[{ on := 1, ground := Ground.guard }], guard := some (1, true) } : Oper)) (v := ?_) rfl (by kernel_rfl) (by kernel_rfl) (by kernel_rfl) (fun _ _ _ h => h) (Or.inl ⟨by rfl, ?_⟩) (by assumption) ?_
      rotate_left 1
      · intro w hSw
        (try dsimp only at hSw)
        go_simp
        try with_reducible rfl
      try simp only [Act.put, List.setIfInBounds_toArray, List.set_cons_zero, List.set_cons_succ]
      refine wpAnyH_take (i := 3) (oi := ({ dst := some 87, op := Op.move (Operand.tmp 0), type := 22, pos := "law.go:35", after := #[{ on := 1, ground := Ground.guard }], guard := some (1, true) } : Oper)) (v := ?_) rfl (by kernel_rfl) (by kernel_rfl) (by kernel_rfl) (fun _ _ _ h => h) (Or.inl ⟨by rfl, ?_⟩) (by assumption) ?_
      rotate_left 1
      · intro w hSw
        (try dsimp only at hSw)
        go_simp
        try with_reducible rfl
      try simp only [Act.put, List.setIfInBounds_toArray, List.set_cons_zero, List.set_cons_succ]
      refine wpAnyH_take (i := 7) (oi := ({ dst := some 91, op := Op.move (Operand.tmp 2), type := 23, pos := "law.go:35", after := #[{ on := 1, ground := Ground.guard }], guard := some (1, true) } : Oper)) (v := ?_) rfl (by kernel_rfl) (by kernel_rfl) (by kernel_rfl) (fun _ _ _ h => h) (Or.inl ⟨by rfl, ?_⟩) (by assumption) ?_
      rotate_left 1
      · intro w hSw
        (try dsimp only at hSw)
        go_simp
        try with_reducible rfl
      try simp only [Act.put, List.setIfInBounds_toArray, List.set_cons_zero, List.set_cons_succ]
      refine wpAnyH_take (i := 8) (oi := ({ dst := some 92, op := Op.move (Operand.tmp 0), type := 22, pos := "law.go:35", after := #[{ on := 1, ground := Ground.guard }], guard := some (1, true) } : Oper)) (v := ?_) rfl (by kernel_rfl) (by kernel_rfl) (by kernel_rfl) (fun _ _ _ h => h) (Or.inl ⟨by rfl, ?_⟩) (by assumption) ?_
      rotate_left 1
      · intro w hSw
        (try dsimp only at hSw)
        go_simp
        try with_reducible rfl
      try simp only [Act.put, List.setIfInBounds_toArray, List.set_cons_zero, List.set_cons_succ]
      refine wpAnyH_ready (rs := [4]) (by kernel_rfl) (by simp) ?_
      refine AllReadyH.cons rfl (fun K hK => ?_) AllReadyH.nil
      go_simp
      go_at_call 11
      refine (FX.out _).mono ?_
      rintro e w' ⟨rfl, rfl⟩
      refine hK.out _ _ (by assumption) (fun hHeld => ?_)
      clear hK K
      try simp only [Act.put, List.setIfInBounds_toArray, List.set_cons_zero, List.set_cons_succ]
      refine wpAnyH_ready (rs := [5]) (by kernel_rfl) (by simp) ?_
      refine AllReadyH.cons rfl (fun K hK => ?_) AllReadyH.nil
      go_simp
      go_at_call 17
      refine CP.out.mono ?_
      rintro e w8 ⟨v8, rfl, hv8, hb8⟩
      refine hK.out _ _ (HS.out _ hb8) (fun hHeld => ?_)
      clear hK K
      try simp only [Act.put, List.setIfInBounds_toArray, List.set_cons_zero, List.set_cons_succ]
      have HV8 := Lib.hid hv8
      have HBX8 := Lib.hid hb8
      have hHeld2 : (fun w' => (convert 22 9 v8).run Tryd.prog w' = .ok (.string ⟨F.toArray⟩) w' ∧ (convert 22 9 v2).run Tryd.prog w' = .ok (.string ⟨p1.toArray⟩) w' ∧ (convert 22 9 v3).run Tryd.prog w' = .ok (.string ⟨p1.toArray⟩) w' ∧ (convert 22 9 v4).run Tryd.prog w' = .ok (.string ⟨r1.toArray⟩) w' ∧ (convert 22 9 v5).run Tryd.prog w' = .ok (.string ⟨r1.toArray⟩) w' ∧ (convert 22 9 x6).run Tryd.prog w' = .ok (.string ⟨o1.toArray⟩) w' ∧ (convert 22 9 x7).run Tryd.prog w' = .ok (.string ⟨o1.toArray⟩) w' ∧ (convert 22 9 y6).run Tryd.prog w' = .ok (.string ⟨o2.toArray⟩) w' ∧ (convert 22 9 y7).run Tryd.prog w' = .ok (.string ⟨o2.toArray⟩) w') w8 := ⟨str_in hv8, HS.out _ hb8⟩
      clear hv8 hb8
      refine wpAnyH_mono (S' := fun w' => (convert 22 9 v8).run Tryd.prog w' = .ok (.string ⟨F.toArray⟩) w' ∧ (convert 22 9 v2).run Tryd.prog w' = .ok (.string ⟨p1.toArray⟩) w' ∧ (convert 22 9 v3).run Tryd.prog w' = .ok (.string ⟨p1.toArray⟩) w' ∧ (convert 22 9 v4).run Tryd.prog w' = .ok (.string ⟨r1.toArray⟩) w' ∧ (convert 22 9 v5).run Tryd.prog w' = .ok (.string ⟨r1.toArray⟩) w' ∧ (convert 22 9 x6).run Tryd.prog w' = .ok (.string ⟨o1.toArray⟩) w' ∧ (convert 22 9 x7).run Tryd.prog w' = .ok (.string ⟨o1.toArray⟩) w' ∧ (convert 22 9 y6).run Tryd.prog w' = .ok (.string ⟨o2.toArray⟩) w' ∧ (convert 22 9 y7).run Tryd.prog w' = .ok (.string ⟨o2.toArray⟩) w') (fun w' h => h.2) _ _ _ _ ?_
      clear hHeld
      refine wpAnyH_take (i := 6) (oi := ({ dst := some 90, op := Op.convert 22 9 (Operand.tmp 89), type := 9, pos := "law.go:35", after := #[{ on := 5, ground := Ground.data }, { on := 1, ground := Ground.guard }], guard := some (1, true) } : Oper)) (v := ?_) rfl (by kernel_rfl) (by kernel_rfl) (by kernel_rfl) (fun _ _ _ h => h) (Or.inl ⟨by rfl, ?_⟩) (by assumption) ?_
      rotate_left 1
      · intro w hSw
        (try dsimp only at hSw)
        go_simp
        try with_reducible rfl
      try simp only [Act.put, List.setIfInBounds_toArray, List.set_cons_zero, List.set_cons_succ]
      refine wpAnyH_ready (rs := [9]) (by kernel_rfl) (by simp) ?_
      refine AllReadyH.cons rfl (fun K hK => ?_) AllReadyH.nil
      go_simp
      go_at_call 11
      refine (FX.out _).mono ?_
      rintro e w' ⟨rfl, rfl⟩
      refine hK.out _ _ (by assumption) (fun hHeld => ?_)
      clear hK K
      try simp only [Act.put, List.setIfInBounds_toArray, List.set_cons_zero, List.set_cons_succ]
      refine wpAnyH_ready (rs := [10]) (by kernel_rfl) (by simp) ?_
      refine AllReadyH.cons rfl (fun K hK => ?_) AllReadyH.nil
      go_simp
      go_at_call 18
      refine (CR.out _ HBX8.out).mono ?_
      rintro e w9 ⟨v9, rfl, hv9, hb9⟩
      have HBX9 := Lib.hid (HBX8.out.trans (hb9.mono HBX8.out.size))
      refine hK.out _ _ ⟨str_in (HV8.out.bel hb9), HS.out _ HBX9.out⟩ (fun hHeld => ?_)
      clear hK K
      try simp only [Act.put, List.setIfInBounds_toArray, List.set_cons_zero, List.set_cons_succ]
      have hHeld3 : (fun w' => (convert 22 9 v9).run Tryd.prog w' = .ok (.string ⟨F.toArray⟩) w' ∧ (convert 22 9 v8).run Tryd.prog w' = .ok (.string ⟨F.toArray⟩) w' ∧ (convert 22 9 v2).run Tryd.prog w' = .ok (.string ⟨p1.toArray⟩) w' ∧ (convert 22 9 v3).run Tryd.prog w' = .ok (.string ⟨p1.toArray⟩) w' ∧ (convert 22 9 v4).run Tryd.prog w' = .ok (.string ⟨r1.toArray⟩) w' ∧ (convert 22 9 v5).run Tryd.prog w' = .ok (.string ⟨r1.toArray⟩) w' ∧ (convert 22 9 x6).run Tryd.prog w' = .ok (.string ⟨o1.toArray⟩) w' ∧ (convert 22 9 x7).run Tryd.prog w' = .ok (.string ⟨o1.toArray⟩) w' ∧ (convert 22 9 y6).run Tryd.prog w' = .ok (.string ⟨o2.toArray⟩) w' ∧ (convert 22 9 y7).run Tryd.prog w' = .ok (.string ⟨o2.toArray⟩) w') w9 := ⟨str_in hv9, str_in (HV8.out.bel hb9), HS.out _ HBX9.out⟩
      clear hv9 hb9 hHeld2
      refine wpAnyH_mono (S' := fun w' => (convert 22 9 v9).run Tryd.prog w' = .ok (.string ⟨F.toArray⟩) w' ∧ (convert 22 9 v8).run Tryd.prog w' = .ok (.string ⟨F.toArray⟩) w' ∧ (convert 22 9 v2).run Tryd.prog w' = .ok (.string ⟨p1.toArray⟩) w' ∧ (convert 22 9 v3).run Tryd.prog w' = .ok (.string ⟨p1.toArray⟩) w' ∧ (convert 22 9 v4).run Tryd.prog w' = .ok (.string ⟨r1.toArray⟩) w' ∧ (convert 22 9 v5).run Tryd.prog w' = .ok (.string ⟨r1.toArray⟩) w' ∧ (convert 22 9 x6).run Tryd.prog w' = .ok (.string ⟨o1.toArray⟩) w' ∧ (convert 22 9 x7).run Tryd.prog w' = .ok (.string ⟨o1.toArray⟩) w' ∧ (convert 22 9 y6).run Tryd.prog w' = .ok (.string ⟨o2.toArray⟩) w' ∧ (convert 22 9 y7).run Tryd.prog w' = .ok (.string ⟨o2.toArray⟩) w') (fun w' h => h.2) _ _ _ _ ?_
      try clear hHeld
      refine wpAnyH_take (i := 11) (oi := ({ dst := some 95, op := Op.convert 22 9 (Operand.tmp 94), type := 9, pos := "law.go:35", after := #[{ on := 10, ground := Ground.data }, { on := 1, ground := Ground.guard }], guard := some (1, true) } : Oper)) (v := ?_) rfl (by kernel_rfl) (by kernel_rfl) (by kernel_rfl) (fun _ _ _ h => h) (Or.inl ⟨by rfl, ?_⟩) (by assumption) ?_
      rotate_left 1
      · intro w hSw
        (try dsimp only at hSw)
        go_simp
        try with_reducible rfl
      try simp only [Act.put, List.setIfInBounds_toArray, List.set_cons_zero, List.set_cons_succ]
      refine wpAnyH_take (i := 12) (oi := ({ dst := some 96, op := Op.binOp BinOp.eql 9 (Operand.tmp 90) (Operand.tmp 95) 9, type := 4, pos := "law.go:35", after := #[{ on := 6, ground := Ground.data }, { on := 11, ground := Ground.data }, { on := 1, ground := Ground.guard }], guard := some (1, true) } : Oper)) (v := ?_) rfl (by kernel_rfl) (by kernel_rfl) (by kernel_rfl) (fun _ _ _ h => h) (Or.inl ⟨by rfl, ?_⟩) (by assumption) ?_
      rotate_left 1
      · intro w hSw
        (try dsimp only at hSw)
        go_simp
        try with_reducible rfl
      try simp only [Act.put, List.setIfInBounds_toArray, List.set_cons_zero, List.set_cons_succ]
      refine wpAnyH_take (i := 13) (oi := ({ dst := some 97, op := Op.pick (Operand.tmp 85) (Operand.tmp 96) (Operand.const (Value.bool false)), type := 4, pos := "law.go:35", after := #[{ on := 1, ground := Ground.data }, { on := 12, ground := Ground.data }], guard := none } : Oper)) (v := ?_) rfl (by kernel_rfl) (by kernel_rfl) (by kernel_rfl) (fun _ _ _ h => h) (Or.inl ⟨by rfl, ?_⟩) (by assumption) ?_
      rotate_left 1
      · intro w hSw
        (try dsimp only at hSw)
        go_simp
        try with_reducible rfl
      try simp only [Act.put, List.setIfInBounds_toArray, List.set_cons_zero, List.set_cons_succ]
      refine wpAnyH_take (i := 14) (oi := ({ dst := some 98, op := Op.move (Operand.tmp 97), type := 4, pos := "law.go:35", after := #[{ on := 13, ground := Ground.data }, { on := 10, ground := Ground.chain }], guard := none } : Oper)) (v := ?_) rfl (by kernel_rfl) (by kernel_rfl) (by kernel_rfl) (fun _ _ _ h => h) (Or.inl ⟨by rfl, ?_⟩) (by assumption) ?_
      rotate_left 1
      · intro w hSw
        (try dsimp only at hSw)
        go_simp
        try with_reducible rfl
      try simp only [Act.put, List.setIfInBounds_toArray, List.set_cons_zero, List.set_cons_succ]
      refine wpAnyH_take (i := 15) (oi := ({ dst := some 99, op := Op.move (Operand.tmp 8), type := 22, pos := "law.go:35", after := #[{ on := 14, ground := Ground.guard }], guard := some (14, true) } : Oper)) (v := ?_) rfl (by kernel_rfl) (by kernel_rfl) (by kernel_rfl) (fun _ _ _ h => h) (Or.inl ⟨by rfl, ?_⟩) (by assumption) ?_
      rotate_left 1
      · intro w hSw
        (try dsimp only at hSw)
        go_simp
        try with_reducible rfl
      try simp only [Act.put, List.setIfInBounds_toArray, List.set_cons_zero, List.set_cons_succ]
      refine wpAnyH_take (i := 16) (oi := ({ dst := some 100, op := Op.convert 22 9 (Operand.tmp 99), type := 9, pos := "law.go:35", after := #[{ on := 15, ground := Ground.data }, { on := 14, ground := Ground.guard }], guard := some (14, true) } : Oper)) (v := ?_) rfl (by kernel_rfl) (by kernel_rfl) (by kernel_rfl) (fun _ _ _ h => h) (Or.inl ⟨by rfl, ?_⟩) (by assumption) ?_
      rotate_left 1
      · intro w hSw
        (try dsimp only at hSw)
        go_simp
        try with_reducible rfl
      try simp only [Act.put, List.setIfInBounds_toArray, List.set_cons_zero, List.set_cons_succ]
      refine wpAnyH_take (i := 17) (oi := ({ dst := some 101, op := Op.move (Operand.tmp 10), type := 22, pos := "law.go:35", after := #[{ on := 14, ground := Ground.guard }], guard := some (14, true) } : Oper)) (v := ?_) rfl (by kernel_rfl) (by kernel_rfl) (by kernel_rfl) (fun _ _ _ h => h) (Or.inl ⟨by rfl, ?_⟩) (by assumption) ?_
      rotate_left 1
      · intro w hSw
        (try dsimp only at hSw)
        go_simp
        try with_reducible rfl
      try simp only [Act.put, List.setIfInBounds_toArray, List.set_cons_zero, List.set_cons_succ]
      refine wpAnyH_take (i := 18) (oi := ({ dst := some 102, op := Op.convert 22 9 (Operand.tmp 101), type := 9, pos := "law.go:35", after := #[{ on := 17, ground := Ground.data }, { on := 14, ground := Ground.guard }], guard := some (14, true) } : Oper)) (v := ?_) rfl (by kernel_rfl) (by kernel_rfl) (by kernel_rfl) (fun _ _ _ h => h) (Or.inl ⟨by rfl, ?_⟩) (by assumption) ?_
      rotate_left 1
      · intro w hSw
        (try dsimp only at hSw)
        go_simp
        try with_reducible rfl
      try simp only [Act.put, List.setIfInBounds_toArray, List.set_cons_zero, List.set_cons_succ]
      refine wpAnyH_take (i := 19) (oi := ({ dst := some 103, op := Op.binOp BinOp.eql 9 (Operand.tmp 100) (Operand.tmp 102) 9, type := 4, pos := "law.go:35", after := #[{ on := 16, ground := Ground.data }, { on := 18, ground := Ground.data }, { on := 14, ground := Ground.guard }], guard := some (14, true) } : Oper)) (v := ?_) rfl (by kernel_rfl) (by kernel_rfl) (by kernel_rfl) (fun _ _ _ h => h) (Or.inl ⟨by rfl, ?_⟩) (by assumption) ?_
      rotate_left 1
      · intro w hSw
        (try dsimp only at hSw)
        go_simp
        try with_reducible rfl
      try simp only [Act.put, List.setIfInBounds_toArray, List.set_cons_zero, List.set_cons_succ]
      refine wpAnyH_take (i := 20) (oi := ({ dst := some 104, op := Op.pick (Operand.tmp 98) (Operand.tmp 103) (Operand.const (Value.bool false)), type := 4, pos := "law.go:35", after := #[{ on := 14, ground := Ground.data }, { on := 19, ground := Ground.data }], guard := none } : Oper)) (v := ?_) rfl (by kernel_rfl) (by kernel_rfl) (by kernel_rfl) (fun _ _ _ h => h) (Or.inl ⟨by rfl, ?_⟩) (by assumption) ?_
      rotate_left 1
      · intro w hSw
        (try dsimp only at hSw)
        go_simp
        try with_reducible rfl
      try simp only [Act.put, List.setIfInBounds_toArray, List.set_cons_zero, List.set_cons_succ]
      refine wpAnyH_take (i := 21) (oi := ({ dst := some 105, op := Op.move (Operand.tmp 104), type := 4, pos := "law.go:35", after := #[{ on := 20, ground := Ground.data }, { on := 14, ground := Ground.chain }], guard := none } : Oper)) (v := ?_) rfl (by kernel_rfl) (by kernel_rfl) (by kernel_rfl) (fun _ _ _ h => h) (Or.inl ⟨by rfl, ?_⟩) (by assumption) ?_
      rotate_left 1
      · intro w hSw
        (try dsimp only at hSw)
        go_simp
        try with_reducible rfl
      try simp only [Act.put, List.setIfInBounds_toArray, List.set_cons_zero, List.set_cons_succ]
      refine wpAnyH_take (i := 22) (oi := ({ dst := some 106, op := Op.move (Operand.tmp 9), type := 25, pos := "law.go:35", after := #[{ on := 21, ground := Ground.guard }], guard := some (21, true) } : Oper)) (v := ?_) rfl (by kernel_rfl) (by kernel_rfl) (by kernel_rfl) (fun _ _ _ h => h) (Or.inl ⟨by rfl, ?_⟩) (by assumption) ?_
      rotate_left 1
      · intro w hSw
        (try dsimp only at hSw)
        go_simp
        try with_reducible rfl
      try simp only [Act.put, List.setIfInBounds_toArray, List.set_cons_zero, List.set_cons_succ]
      refine wpAnyH_take (i := 23) (oi := ({ dst := some 107, op := Op.move (Operand.tmp 11), type := 25, pos := "law.go:35", after := #[{ on := 21, ground := Ground.guard }], guard := some (21, true) } : Oper)) (v := ?_) rfl (by kernel_rfl) (by kernel_rfl) (by kernel_rfl) (fun _ _ _ h => h) (Or.inl ⟨by rfl, ?_⟩) (by assumption) ?_
      rotate_left 1
      · intro w hSw
        (try dsimp only at hSw)
        go_simp
        try with_reducible rfl
      try simp only [Act.put, List.setIfInBounds_toArray, List.set_cons_zero, List.set_cons_succ]
      refine wpAnyH_take (i := 24) (oi := ({ dst := some 108, op := Op.binOp BinOp.eql 25 (Operand.tmp 106) (Operand.tmp 107) 25, type := 4, pos := "law.go:35", after := #[{ on := 22, ground := Ground.data }, { on := 23, ground := Ground.data }, { on := 21, ground := Ground.guard }], guard := some (21, true) } : Oper)) (v := ?_) rfl (by kernel_rfl) (by kernel_rfl) (by kernel_rfl) (fun _ _ _ h => h) (Or.inl ⟨by rfl, ?_⟩) (by assumption) ?_
      rotate_left 1
      · intro w hSw
        (try dsimp only at hSw)
        go_simp
        try with_reducible rfl
      try simp only [Act.put, List.setIfInBounds_toArray, List.set_cons_zero, List.set_cons_succ]
      refine wpAnyH_take (i := 25) (oi := ({ dst := some 109, op := Op.pick (Operand.tmp 105) (Operand.tmp 108) (Operand.const (Value.bool false)), type := 4, pos := "law.go:35", after := #[{ on := 21, ground := Ground.data }, { on := 24, ground := Ground.data }], guard := none } : Oper)) (v := ?_) rfl (by kernel_rfl) (by kernel_rfl) (by kernel_rfl) (fun _ _ _ h => h) (Or.inl ⟨by rfl, ?_⟩) (by assumption) ?_
      rotate_left 1
      · intro w hSw
        (try dsimp only at hSw)
        go_simp
        try with_reducible rfl
      try simp only [Act.put, List.setIfInBounds_toArray, List.set_cons_zero, List.set_cons_succ]
      refine wpAnyH_take (i := 26) (oi := ({ dst := some 110, op := Op.move (Operand.tmp 109), type := 4, pos := "law.go:35", after := #[{ on := 25, ground := Ground.data }, { on := 21, ground := Ground.chain }], guard := none } : Oper)) (v := ?_) rfl (by kernel_rfl) (by kernel_rfl) (by kernel_rfl) (fun _ _ _ h => h) (Or.inl ⟨by rfl, ?_⟩) (by assumption) ?_
      rotate_left 1
      · intro w hSw
        (try dsimp only at hSw)
        go_simp
        try with_reducible rfl
      try simp only [Act.put, List.setIfInBounds_toArray, List.set_cons_zero, List.set_cons_succ]
      refine wpAnyH_take (i := 27) (oi := ({ dst := some 111, op := Op.move (Operand.tmp 12), type := 22, pos := "law.go:35", after := #[{ on := 26, ground := Ground.guard }], guard := some (26, true) } : Oper)) (v := ?_) rfl (by kernel_rfl) (by kernel_rfl) (by kernel_rfl) (fun _ _ _ h => h) (Or.inl ⟨by rfl, ?_⟩) (by assumption) ?_
      rotate_left 1
      · intro w hSw
        (try dsimp only at hSw)
        go_simp
        try with_reducible rfl
      try simp only [Act.put, List.setIfInBounds_toArray, List.set_cons_zero, List.set_cons_succ]
      refine wpAnyH_take (i := 28) (oi := ({ dst := some 112, op := Op.convert 22 9 (Operand.tmp 111), type := 9, pos := "law.go:35", after := #[{ on := 27, ground := Ground.data }, { on := 26, ground := Ground.guard }], guard := some (26, true) } : Oper)) (v := ?_) rfl (by kernel_rfl) (by kernel_rfl) (by kernel_rfl) (fun _ _ _ h => h) (Or.inl ⟨by rfl, ?_⟩) (by assumption) ?_
      rotate_left 1
      · intro w hSw
        (try dsimp only at hSw)
        go_simp
        try with_reducible rfl
      try simp only [Act.put, List.setIfInBounds_toArray, List.set_cons_zero, List.set_cons_succ]
      refine wpAnyH_take (i := 29) (oi := ({ dst := some 113, op := Op.move (Operand.tmp 14), type := 22, pos := "law.go:35", after := #[{ on := 26, ground := Ground.guard }], guard := some (26, true) } : Oper)) (v := ?_) rfl (by kernel_rfl) (by kernel_rfl) (by kernel_rfl) (fun _ _ _ h => h) (Or.inl ⟨by rfl, ?_⟩) (by assumption) ?_
      rotate_left 1
      · intro w hSw
        (try dsimp only at hSw)
        go_simp
        try with_reducible rfl
      try simp only [Act.put, List.setIfInBounds_toArray, List.set_cons_zero, List.set_cons_succ]
      refine wpAnyH_take (i := 30) (oi := ({ dst := some 114, op := Op.convert 22 9 (Operand.tmp 113), type := 9, pos := "law.go:35", after := #[{ on := 29, ground := Ground.data }, { on := 26, ground := Ground.guard }], guard := some (26, true) } : Oper)) (v := ?_) rfl (by kernel_rfl) (by kernel_rfl) (by kernel_rfl) (fun _ _ _ h => h) (Or.inl ⟨by rfl, ?_⟩) (by assumption) ?_
      rotate_left 1
      · intro w hSw
        (try dsimp only at hSw)
        go_simp
        try with_reducible rfl
      try simp only [Act.put, List.setIfInBounds_toArray, List.set_cons_zero, List.set_cons_succ]
      refine wpAnyH_take (i := 31) (oi := ({ dst := some 115, op := Op.binOp BinOp.eql 9 (Operand.tmp 112) (Operand.tmp 114) 9, type := 4, pos := "law.go:35", after := #[{ on := 28, ground := Ground.data }, { on := 30, ground := Ground.data }, { on := 26, ground := Ground.guard }], guard := some (26, true) } : Oper)) (v := ?_) rfl (by kernel_rfl) (by kernel_rfl) (by kernel_rfl) (fun _ _ _ h => h) (Or.inl ⟨by rfl, ?_⟩) (by assumption) ?_
      rotate_left 1
      · intro w hSw
        (try dsimp only at hSw)
        go_simp
        try with_reducible rfl
      try simp only [Act.put, List.setIfInBounds_toArray, List.set_cons_zero, List.set_cons_succ]
      refine wpAnyH_take (i := 32) (oi := ({ dst := some 116, op := Op.pick (Operand.tmp 110) (Operand.tmp 115) (Operand.const (Value.bool false)), type := 4, pos := "law.go:35", after := #[{ on := 26, ground := Ground.data }, { on := 31, ground := Ground.data }], guard := none } : Oper)) (v := ?_) rfl (by kernel_rfl) (by kernel_rfl) (by kernel_rfl) (fun _ _ _ h => h) (Or.inl ⟨by rfl, ?_⟩) (by assumption) ?_
      rotate_left 1
      · intro w hSw
        (try dsimp only at hSw)
        go_simp
        try with_reducible rfl
      try simp only [Act.put, List.setIfInBounds_toArray, List.set_cons_zero, List.set_cons_succ]
      refine wpAnyH_take (i := 33) (oi := ({ dst := some 117, op := Op.move (Operand.tmp 116), type := 4, pos := "law.go:35", after := #[{ on := 32, ground := Ground.data }, { on := 26, ground := Ground.chain }], guard := none } : Oper)) (v := ?_) rfl (by kernel_rfl) (by kernel_rfl) (by kernel_rfl) (fun _ _ _ h => h) (Or.inl ⟨by rfl, ?_⟩) (by assumption) ?_
      rotate_left 1
      · intro w hSw
        (try dsimp only at hSw)
        go_simp
        try with_reducible rfl
      try simp only [Act.put, List.setIfInBounds_toArray, List.set_cons_zero, List.set_cons_succ]
      refine wpAnyH_take (i := 34) (oi := ({ dst := some 118, op := Op.move (Operand.tmp 13), type := 25, pos := "law.go:35", after := #[{ on := 33, ground := Ground.guard }], guard := some (33, true) } : Oper)) (v := ?_) rfl (by kernel_rfl) (by kernel_rfl) (by kernel_rfl) (fun _ _ _ h => h) (Or.inl ⟨by rfl, ?_⟩) (by assumption) ?_
      rotate_left 1
      · intro w hSw
        (try dsimp only at hSw)
        go_simp
        try with_reducible rfl
      try simp only [Act.put, List.setIfInBounds_toArray, List.set_cons_zero, List.set_cons_succ]
      refine wpAnyH_take (i := 35) (oi := ({ dst := some 119, op := Op.move (Operand.tmp 15), type := 25, pos := "law.go:35", after := #[{ on := 33, ground := Ground.guard }], guard := some (33, true) } : Oper)) (v := ?_) rfl (by kernel_rfl) (by kernel_rfl) (by kernel_rfl) (fun _ _ _ h => h) (Or.inl ⟨by rfl, ?_⟩) (by assumption) ?_
      rotate_left 1
      · intro w hSw
        (try dsimp only at hSw)
        go_simp
        try with_reducible rfl
      try simp only [Act.put, List.setIfInBounds_toArray, List.set_cons_zero, List.set_cons_succ]
      refine wpAnyH_take (i := 36) (oi := ({ dst := some 120, op := Op.binOp BinOp.eql 25 (Operand.tmp 118) (Operand.tmp 119) 25, type := 4, pos := "law.go:35", after := #[{ on := 34, ground := Ground.data }, { on := 35, ground := Ground.data }, { on := 33, ground := Ground.guard }], guard := some (33, true) } : Oper)) (v := ?_) rfl (by kernel_rfl) (by kernel_rfl) (by kernel_rfl) (fun _ _ _ h => h) (Or.inl ⟨by rfl, ?_⟩) (by assumption) ?_
      rotate_left 1
      · intro w hSw
        (try dsimp only at hSw)
        go_simp
        try with_reducible rfl
      try simp only [Act.put, List.setIfInBounds_toArray, List.set_cons_zero, List.set_cons_succ]
      refine wpAnyH_take (i := 37) (oi := ({ dst := some 121, op := Op.pick (Operand.tmp 117) (Operand.tmp 120) (Operand.const (Value.bool false)), type := 4, pos := "law.go:35", after := #[{ on := 33, ground := Ground.data }, { on := 36, ground := Ground.data }], guard := none } : Oper)) (v := ?_) rfl (by kernel_rfl) (by kernel_rfl) (by kernel_rfl) (fun _ _ _ h => h) (Or.inl ⟨by rfl, ?_⟩) (by assumption) ?_
      rotate_left 1
      · intro w hSw
        (try dsimp only at hSw)
        go_simp
        try with_reducible rfl
      try simp only [Act.put, List.setIfInBounds_toArray, List.set_cons_zero, List.set_cons_succ]
      refine wpAnyH_take (i := 38) (oi := ({ dst := some 122, op := Op.move (Operand.tmp 121), type := 4, pos := "law.go:35", after := #[{ on := 37, ground := Ground.data }, { on := 33, ground := Ground.chain }], guard := none } : Oper)) (v := ?_) rfl (by kernel_rfl) (by kernel_rfl) (by kernel_rfl) (fun _ _ _ h => h) (Or.inl ⟨by rfl, ?_⟩) (by assumption) ?_
      rotate_left 1
      · intro w hSw
        (try dsimp only at hSw)
        go_simp
        try with_reducible rfl
      try simp only [Act.put, List.setIfInBounds_toArray, List.set_cons_zero, List.set_cons_succ]
      refine wpAnyH_take (i := 39) (oi := ({ dst := some 123, op := Op.move (Operand.tmp 17), type := 22, pos := "law.go:35", after := #[{ on := 38, ground := Ground.guard }], guard := some (38, true) } : Oper)) (v := ?_) rfl (by kernel_rfl) (by kernel_rfl) (by kernel_rfl) (fun _ _ _ h => h) (Or.inl ⟨by rfl, ?_⟩) (by assumption) ?_
      rotate_left 1
      · intro w hSw
        (try dsimp only at hSw)
        go_simp
        try with_reducible rfl
      try simp only [Act.put, List.setIfInBounds_toArray, List.set_cons_zero, List.set_cons_succ]
      refine wpAnyH_take (i := 40) (oi := ({ dst := some 124, op := Op.convert 22 9 (Operand.tmp 123), type := 9, pos := "law.go:35", after := #[{ on := 39, ground := Ground.data }, { on := 38, ground := Ground.guard }], guard := some (38, true) } : Oper)) (v := ?_) rfl (by kernel_rfl) (by kernel_rfl) (by kernel_rfl) (fun _ _ _ h => h) (Or.inl ⟨by rfl, ?_⟩) (by assumption) ?_
      rotate_left 1
      · intro w hSw
        (try dsimp only at hSw)
        go_simp
        try with_reducible rfl
      try simp only [Act.put, List.setIfInBounds_toArray, List.set_cons_zero, List.set_cons_succ]
      refine wpAnyH_take (i := 41) (oi := ({ dst := some 125, op := Op.move (Operand.tmp 20), type := 22, pos := "law.go:35", after := #[{ on := 38, ground := Ground.guard }], guard := some (38, true) } : Oper)) (v := ?_) rfl (by kernel_rfl) (by kernel_rfl) (by kernel_rfl) (fun _ _ _ h => h) (Or.inl ⟨by rfl, ?_⟩) (by assumption) ?_
      rotate_left 1
      · intro w hSw
        (try dsimp only at hSw)
        go_simp
        try with_reducible rfl
      try simp only [Act.put, List.setIfInBounds_toArray, List.set_cons_zero, List.set_cons_succ]
      refine wpAnyH_take (i := 42) (oi := ({ dst := some 126, op := Op.convert 22 9 (Operand.tmp 125), type := 9, pos := "law.go:35", after := #[{ on := 41, ground := Ground.data }, { on := 38, ground := Ground.guard }], guard := some (38, true) } : Oper)) (v := ?_) rfl (by kernel_rfl) (by kernel_rfl) (by kernel_rfl) (fun _ _ _ h => h) (Or.inl ⟨by rfl, ?_⟩) (by assumption) ?_
      rotate_left 1
      · intro w hSw
        (try dsimp only at hSw)
        go_simp
        try with_reducible rfl
      try simp only [Act.put, List.setIfInBounds_toArray, List.set_cons_zero, List.set_cons_succ]
      refine wpAnyH_take (i := 43) (oi := ({ dst := some 127, op := Op.binOp BinOp.eql 9 (Operand.tmp 124) (Operand.tmp 126) 9, type := 4, pos := "law.go:35", after := #[{ on := 40, ground := Ground.data }, { on := 42, ground := Ground.data }, { on := 38, ground := Ground.guard }], guard := some (38, true) } : Oper)) (v := ?_) rfl (by kernel_rfl) (by kernel_rfl) (by kernel_rfl) (fun _ _ _ h => h) (Or.inl ⟨by rfl, ?_⟩) (by assumption) ?_
      rotate_left 1
      · intro w hSw
        (try dsimp only at hSw)
        go_simp
        try with_reducible rfl
      try simp only [Act.put, List.setIfInBounds_toArray, List.set_cons_zero, List.set_cons_succ]
      refine wpAnyH_take (i := 44) (oi := ({ dst := some 128, op := Op.pick (Operand.tmp 122) (Operand.tmp 127) (Operand.const (Value.bool false)), type := 4, pos := "law.go:35", after := #[{ on := 38, ground := Ground.data }, { on := 43, ground := Ground.data }], guard := none } : Oper)) (v := ?_) rfl (by kernel_rfl) (by kernel_rfl) (by kernel_rfl) (fun _ _ _ h => h) (Or.inl ⟨by rfl, ?_⟩) (by assumption) ?_
      rotate_left 1
      · intro w hSw
        (try dsimp only at hSw)
        go_simp
        try with_reducible rfl
      try simp only [Act.put, List.setIfInBounds_toArray, List.set_cons_zero, List.set_cons_succ]
      refine wpAnyH_take (i := 45) (oi := ({ dst := some 129, op := Op.move (Operand.tmp 128), type := 4, pos := "law.go:35", after := #[{ on := 44, ground := Ground.data }, { on := 38, ground := Ground.chain }], guard := none } : Oper)) (v := ?_) rfl (by kernel_rfl) (by kernel_rfl) (by kernel_rfl) (fun _ _ _ h => h) (Or.inl ⟨by rfl, ?_⟩) (by assumption) ?_
      rotate_left 1
      · intro w hSw
        (try dsimp only at hSw)
        go_simp
        try with_reducible rfl
      try simp only [Act.put, List.setIfInBounds_toArray, List.set_cons_zero, List.set_cons_succ]
      refine wpAnyH_take (i := 46) (oi := ({ dst := some 130, op := Op.move (Operand.tmp 18), type := 22, pos := "law.go:35", after := #[{ on := 45, ground := Ground.guard }], guard := some (45, true) } : Oper)) (v := ?_) rfl (by kernel_rfl) (by kernel_rfl) (by kernel_rfl) (fun _ _ _ h => h) (Or.inl ⟨by rfl, ?_⟩) (by assumption) ?_
      rotate_left 1
      · intro w hSw
        (try dsimp only at hSw)
        go_simp
        try with_reducible rfl
      try simp only [Act.put, List.setIfInBounds_toArray, List.set_cons_zero, List.set_cons_succ]
      refine wpAnyH_take (i := 47) (oi := ({ dst := some 131, op := Op.convert 22 9 (Operand.tmp 130), type := 9, pos := "law.go:35", after := #[{ on := 46, ground := Ground.data }, { on := 45, ground := Ground.guard }], guard := some (45, true) } : Oper)) (v := ?_) rfl (by kernel_rfl) (by kernel_rfl) (by kernel_rfl) (fun _ _ _ h => h) (Or.inl ⟨by rfl, ?_⟩) (by assumption) ?_
      rotate_left 1
      · intro w hSw
        (try dsimp only at hSw)
        go_simp
        try with_reducible rfl
      try simp only [Act.put, List.setIfInBounds_toArray, List.set_cons_zero, List.set_cons_succ]
      refine wpAnyH_take (i := 48) (oi := ({ dst := some 132, op := Op.move (Operand.tmp 21), type := 22, pos := "law.go:35", after := #[{ on := 45, ground := Ground.guard }], guard := some (45, true) } : Oper)) (v := ?_) rfl (by kernel_rfl) (by kernel_rfl) (by kernel_rfl) (fun _ _ _ h => h) (Or.inl ⟨by rfl, ?_⟩) (by assumption) ?_
      rotate_left 1
      · intro w hSw
        (try dsimp only at hSw)
        go_simp
        try with_reducible rfl
      try simp only [Act.put, List.setIfInBounds_toArray, List.set_cons_zero, List.set_cons_succ]
      refine wpAnyH_take (i := 49) (oi := ({ dst := some 133, op := Op.convert 22 9 (Operand.tmp 132), type := 9, pos := "law.go:35", after := #[{ on := 48, ground := Ground.data }, { on := 45, ground := Ground.guard }], guard := some (45, true) } : Oper)) (v := ?_) rfl (by kernel_rfl) (by kernel_rfl) (by kernel_rfl) (fun _ _ _ h => h) (Or.inl ⟨by rfl, ?_⟩) (by assumption) ?_
      rotate_left 1
      · intro w hSw
        (try dsimp only at hSw)
        go_simp
        try with_reducible rfl
      try simp only [Act.put, List.setIfInBounds_toArray, List.set_cons_zero, List.set_cons_succ]
      refine wpAnyH_take (i := 50) (oi := ({ dst := some 134, op := Op.binOp BinOp.eql 9 (Operand.tmp 131) (Operand.tmp 133) 9, type := 4, pos := "law.go:35", after := #[{ on := 47, ground := Ground.data }, { on := 49, ground := Ground.data }, { on := 45, ground := Ground.guard }], guard := some (45, true) } : Oper)) (v := ?_) rfl (by kernel_rfl) (by kernel_rfl) (by kernel_rfl) (fun _ _ _ h => h) (Or.inl ⟨by rfl, ?_⟩) (by assumption) ?_
      rotate_left 1
      · intro w hSw
        (try dsimp only at hSw)
        go_simp
        try with_reducible rfl
      try simp only [Act.put, List.setIfInBounds_toArray, List.set_cons_zero, List.set_cons_succ]
      refine wpAnyH_take (i := 51) (oi := ({ dst := some 135, op := Op.pick (Operand.tmp 129) (Operand.tmp 134) (Operand.const (Value.bool false)), type := 4, pos := "law.go:35", after := #[{ on := 45, ground := Ground.data }, { on := 50, ground := Ground.data }], guard := none } : Oper)) (v := ?_) rfl (by kernel_rfl) (by kernel_rfl) (by kernel_rfl) (fun _ _ _ h => h) (Or.inl ⟨by rfl, ?_⟩) (by assumption) ?_
      rotate_left 1
      · intro w hSw
        (try dsimp only at hSw)
        go_simp
        try with_reducible rfl
      try simp only [Act.put, List.setIfInBounds_toArray, List.set_cons_zero, List.set_cons_succ]
      refine wpAnyH_take (i := 52) (oi := ({ dst := some 136, op := Op.move (Operand.tmp 135), type := 4, pos := "law.go:35", after := #[{ on := 51, ground := Ground.data }, { on := 45, ground := Ground.chain }], guard := none } : Oper)) (v := ?_) rfl (by kernel_rfl) (by kernel_rfl) (by kernel_rfl) (fun _ _ _ h => h) (Or.inl ⟨by rfl, ?_⟩) (by assumption) ?_
      rotate_left 1
      · intro w hSw
        (try dsimp only at hSw)
        go_simp
        try with_reducible rfl
      try simp only [Act.put, List.setIfInBounds_toArray, List.set_cons_zero, List.set_cons_succ]
      refine wpAnyH_take (i := 53) (oi := ({ dst := some 137, op := Op.move (Operand.tmp 19), type := 25, pos := "law.go:35", after := #[{ on := 52, ground := Ground.guard }], guard := some (52, true) } : Oper)) (v := ?_) rfl (by kernel_rfl) (by kernel_rfl) (by kernel_rfl) (fun _ _ _ h => h) (Or.inl ⟨by rfl, ?_⟩) (by assumption) ?_
      rotate_left 1
      · intro w hSw
        (try dsimp only at hSw)
        go_simp
        try with_reducible rfl
      try simp only [Act.put, List.setIfInBounds_toArray, List.set_cons_zero, List.set_cons_succ]
      refine wpAnyH_take (i := 54) (oi := ({ dst := some 138, op := Op.move (Operand.tmp 22), type := 25, pos := "law.go:35", after := #[{ on := 52, ground := Ground.guard }], guard := some (52, true) } : Oper)) (v := ?_) rfl (by kernel_rfl) (by kernel_rfl) (by kernel_rfl) (fun _ _ _ h => h) (Or.inl ⟨by rfl, ?_⟩) (by assumption) ?_
      rotate_left 1
      · intro w hSw
        (try dsimp only at hSw)
        go_simp
        try with_reducible rfl
      try simp only [Act.put, List.setIfInBounds_toArray, List.set_cons_zero, List.set_cons_succ]
      refine wpAnyH_take (i := 55) (oi := ({ dst := some 139, op := Op.binOp BinOp.eql 25 (Operand.tmp 137) (Operand.tmp 138) 25, type := 4, pos := "law.go:35", after := #[{ on := 53, ground := Ground.data }, { on := 54, ground := Ground.data }, { on := 52, ground := Ground.guard }], guard := some (52, true) } : Oper)) (v := ?_) rfl (by kernel_rfl) (by kernel_rfl) (by kernel_rfl) (fun _ _ _ h => h) (Or.inl ⟨by rfl, ?_⟩) (by assumption) ?_
      rotate_left 1
      · intro w hSw
        (try dsimp only at hSw)
        go_simp
        try with_reducible rfl
      try simp only [Act.put, List.setIfInBounds_toArray, List.set_cons_zero, List.set_cons_succ]
      refine wpAnyH_take (i := 56) (oi := ({ dst := some 140, op := Op.pick (Operand.tmp 136) (Operand.tmp 139) (Operand.const (Value.bool false)), type := 4, pos := "law.go:35", after := #[{ on := 52, ground := Ground.data }, { on := 55, ground := Ground.data }], guard := none } : Oper)) (v := ?_) rfl (by kernel_rfl) (by kernel_rfl) (by kernel_rfl) (fun _ _ _ h => h) (Or.inl ⟨by rfl, ?_⟩) (by assumption) ?_
      rotate_left 1
      · intro w hSw
        (try dsimp only at hSw)
        go_simp
        try with_reducible rfl
      try simp only [Act.put, List.setIfInBounds_toArray, List.set_cons_zero, List.set_cons_succ]
      refine wpAnyH_take (i := 57) (oi := ({ dst := some 6, op := Op.assign (Operand.tmp 140), type := 4, pos := "law.go:35", after := #[{ on := 56, ground := Ground.data }, { on := 52, ground := Ground.chain }, { on := 0, ground := Ground.phase }, { on := 1, ground := Ground.phase }, { on := 2, ground := Ground.phase }, { on := 3, ground := Ground.phase }, { on := 4, ground := Ground.phase }, { on := 5, ground := Ground.phase }, { on := 6, ground := Ground.phase }, { on := 7, ground := Ground.phase }, { on := 8, ground := Ground.phase }, { on := 9, ground := Ground.phase }, { on := 10, ground := Ground.phase }, { on := 11, ground := Ground.phase }, { on := 12, ground := Ground.phase }, { on := 13, ground := Ground.phase }, { on := 14, ground := Ground.phase }, { on := 15, ground := Ground.phase }, { on := 16, ground := Ground.phase }, { on := 17, ground := Ground.phase }, { on := 18, ground := Ground.phase }, { on := 19, ground := Ground.phase }, { on := 20, ground := Ground.phase }, { on := 21, ground := Ground.phase }, { on := 22, ground := Ground.phase }, { on := 23, ground := Ground.phase }, { on := 24, ground := Ground.phase }, { on := 25, ground := Ground.phase }, { on := 26, ground := Ground.phase }, { on := 27, ground := Ground.phase }, { on := 28, ground := Ground.phase }, { on := 29, ground := Ground.phase }, { on := 30, ground := Ground.phase }, { on := 31, ground := Ground.phase }, { on := 32, ground := Ground.phase }, { on := 33, ground := Ground.phase }, { on := 34, ground := Ground.phase }, { on := 35, ground := Ground.phase }, { on := 36, ground := Ground.phase }, { on := 37, ground := Ground.phase }, { on := 38, ground := Ground.phase }, { on := 39, ground := Ground.phase }, { on := 40, ground := Ground.phase }, { on := 41, ground := Ground.phase }, { on := 42, ground := Ground.phase }, { on := 43, ground := Ground.phase }, { on := 44, ground := Ground.phase }, { on := 45, ground := Ground.phase }, { on := 46, ground := Ground.phase }, { on := 47, ground := Ground.phase }, { on := 48, ground := Ground.phase }, { on := 49, ground := Ground.phase }, { on := 50, ground := Ground.phase }, { on := 51, ground := Ground.phase }, { on := 52, ground := Ground.phase }, { on := 53, ground := Ground.phase }, { on := 54, ground := Ground.phase }, { on := 55, ground := Ground.phase }, { on := 56, ground := Ground.phase }], guard := none } : Oper)) (v := ?_) rfl (by kernel_rfl) (by kernel_rfl) (by kernel_rfl) (fun _ _ _ h => h) (Or.inl ⟨by rfl, ?_⟩) (by assumption) ?_
      rotate_left 1
      · intro w hSw
        (try dsimp only at hSw)
        go_simp
        try with_reducible rfl
      try simp only [Act.put, List.setIfInBounds_toArray, List.set_cons_zero, List.set_cons_succ]
      refine wpAnyH_done (by kernel_rfl) ?_ _
      have HF := Lib.hid (HB7.out.trans (HBX9.out.mono HB7.out.size))
      go_wp2_with fail
      go_ret
      exact ⟨rfl, HF.out⟩
end Go.Proofs.YtlobajlodbdeiaaDoor
