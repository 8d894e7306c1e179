/- The walk of theseuslaw07.RuleMay. -/
import Derived.Test.YtchbghnkfjandaaL07
import Derived.Test.YtchbghnkfjandaaRef07F
import Derived.Test.YtchbghnkfjandaaBlk
import Derived.Deep.DeepCutAuto
import Derived.Deep.RegionHeld3
namespace Go.Proofs.Ytchbghnkfjandaa
open Go.RowKit
set_option linter.unusedVariables false
set_option linter.unusedSimpArgs false

theorem odd_host (a k : Nat) (hk : k < 32) : mayI (a ||| 1) (k : Int) = 8 := by
  rw [may_in _ _ (by omega), if_neg]
  intro h
  have h1 : 2 ∣ 2 ^ (32 - k) := by
    rw [show 32 - k = (31 - k) + 1 by omega, Nat.pow_succ]
    exact Nat.dvd_mul_left _ _
  have h2 : 2 ∣ (a ||| 1) := by
    rw [← h]
    exact Nat.dvd_trans h1 (lo_dvd _ _)
  have h3 : (a ||| 1).testBit 0 = true := by simp
  rw [Nat.testBit_zero, decide_eq_true_iff] at h3
  omega
theorem big_len (a : Nat) (n : Int) (h : 32 < n) : mayI a n = 1 := by unfold mayI; rw [if_pos (.inr h)]
theorem may_pfx (a : Nat) (l c n m : Int) : mayI a l = 0 ∨ mayR a l c n m = mayI a l := by
  by_cases h : mayI a l = 0
  · exact .inl h
  · exact .inr (mayR_pfx c n m h)
set_option maxRecDepth 100000 in
set_option maxHeartbeats 4000000 in
theorem walkRuleMay (a0 b0 c0 e0 : Int) (a1 a2 : Int) (w : World) (w0 : (Lit.int .u32 a0).wf = true) (x0 : (Lit.int .i64 b0).wf = true) (y0 : (Lit.int .i64 c0).wf = true) (z0 : (Lit.int .i64 e0).wf = true) (w1 : (Lit.int .u8 a1).wf = true) (w2 : (Lit.int .u8 a2).wf = true) :
    Calls Try.prog 5 #[.agg #[.int .u32 a0, .int .i64 b0, .int .i64 c0, .int .i64 e0], .int .u8 a1, .int .u8 a2] w fun e w' => e = .returned (.bool true) ∧ Below w.heap.size w w' := by
  obtain ⟨hl0, hh0⟩ := bounds_u32 w0
  obtain ⟨a, rfl⟩ := Int.eq_ofNat_of_zero_le hl0
  have ha : (a : Int) ≤ 4294967295 := by omega
  clear w0 hl0 hh0 x0 y0 z0
  obtain ⟨hl1, hh1⟩ := bounds_u8 w1
  obtain ⟨p, rfl⟩ := Int.eq_ofNat_of_zero_le hl1
  obtain ⟨hl2, hh2⟩ := bounds_u8 w2
  obtain ⟨q, rfl⟩ := Int.eq_ofNat_of_zero_le hl2
  have hp : (p : Int) ≤ 255 := by omega
  have hq : (q : Int) ≤ 255 := by omega
  clear w1 w2 hl1 hh1 hl2 hh2
  obtain ⟨m, hm⟩ : ∃ m : Nat, (1 : Int) + (p : Int) = (m : Int) := ⟨1 + p, by omega⟩
  have hm0 : 1 ≤ (m : Int) := by omega
  have hm1 : (m : Int) ≤ 256 := by omega
  obtain ⟨A, k, act, nx, hA, HL, hk, hcase, HF⟩ := fit_any a b0 c0 e0 m ha hm0 (by omega)
  have hact : (act : Int) ≤ 3 := by omega
  have hnx : (nx : Int) ≤ 255 := by omega
  have hmay : mayI A (k : Int) = 0 := by rw [may_in _ _ (by omega), if_pos HL.out]
  have M0 := Lib.hid (fun w => mayr_any A k act nx m w hA)
  have h4 : mayR A k act nx m = 0 := by
    rcases hcase with ⟨rfl, h⟩ | ⟨h, rfl⟩
    · exact mayR_next hmay (by omega) h
    · exact mayR_end _ hmay (by omega)
  rw [h4] at M0
  obtain ⟨t1, ht1⟩ : ∃ t : Bool, (bits BinOp.and IntKind.u8 (q : Int) 1 != 0) = t := ⟨_, rfl⟩
  obtain ⟨t2, ht2⟩ : ∃ t : Bool, (bits BinOp.and IntKind.u8 (q : Int) 2 != 0) = t := ⟨_, rfl⟩
  obtain ⟨t3, ht3⟩ : ∃ t : Bool, (bits BinOp.and IntKind.u8 (q : Int) 4 != 0) = t := ⟨_, rfl⟩
  obtain ⟨t4, ht4⟩ : ∃ t : Bool, (bits BinOp.and IntKind.u8 (q : Int) 8 != 0) = t := ⟨_, rfl⟩
  have HB0 := Lib.hid (Below.refl w.heap.size w)
  go_enter Try.func5, Try.ntmps5
  go_wp2_with fail
  obtain ⟨w1, hW⟩ : ∃ W, w.alloc (.cells #[.int .u32 (a : Int), .int .i64 b0, .int .i64 c0, .int .i64 e0] 24) = W := ⟨_, rfl⟩
  obtain ⟨g, hG⟩ : ∃ G, w.heap.size = G := ⟨_, rfl⟩
  rw [hW, hG]
  have hb : Below w.heap.size w w1 := by subst hW; exact (Below.refl _ _).alloc (Nat.le_refl _) _
  have HB1 := Lib.hid (HB0.out.trans (hb.mono HB0.out.size))
  have Lg : Hid (w.heap.size ≤ g) := by subst hG; exact HB0.out.size
  have Kg : Hid (Blk g #[.int .u32 (a : Int), .int .i64 b0, .int .i64 c0, .int .i64 e0] 24 w1) := by subst hW hG; exact Blk.new _ _ _
  clear hb hW hG HB0
  refine (shown7 w1).mono ?_
  rintro e1 w2 ⟨rfl, hb⟩
  have HB2 := Lib.hid (HB1.out.trans (hb.mono HB1.out.size))
  replace Kg := Lib.hid (Kg.out.bel hb)
  clear hb HB1
  have qg0 := Kg.out.cell 0 rfl
  have qg1 := Kg.out.cell 1 rfl
  have qg2 := Kg.out.cell 2 rfl
  have qg3 := Kg.out.cell 3 rfl
  go_wp2_with fail
  refine (HF.out w2).mono ?_
  rintro e1 w3 ⟨rfl, hb⟩
  clear qg0 qg1 qg2 qg3
  have HB3 := Lib.hid (HB2.out.trans (hb.mono HB2.out.size))
  replace Kg := Lib.hid (Kg.out.bel hb)
  clear hb HB2
  clear Kg
  go_upto_region 4 with fail
  obtain ⟨w4, hW⟩ : ∃ W, w3.alloc (.cells #[.int .u32 (A : Int), .int .i64 (k : Int), .int .i64 (act : Int), .int .i64 (nx : Int)] 24) = W := ⟨_, rfl⟩
  obtain ⟨G, hG⟩ : ∃ G, w3.heap.size = G := ⟨_, rfl⟩
  rw [hW, hG]
  have hb : Below w3.heap.size w3 w4 := by subst hW; exact (Below.refl _ _).alloc (Nat.le_refl _) _
  have HB4 := Lib.hid (HB3.out.trans (hb.mono HB3.out.size))
  have LG : Hid (w.heap.size ≤ G) := by subst hG; exact HB3.out.size
  have KG : Hid (Blk G #[.int .u32 (A : Int), .int .i64 (k : Int), .int .i64 (act : Int), .int .i64 (nx : Int)] 24 w4) := by subst hW hG; exact Blk.new _ _ _
  clear hb hW hG HB3
  have qG0 := KG.out.cell 0 rfl
  have qG1 := KG.out.cell 1 rfl
  have qG2 := KG.out.cell 2 rfl
  have qG3 := KG.out.cell 3 rfl
  go_wp2_with fail
  refine (M0.out w4).mono ?_
  rintro e1 w5 ⟨rfl, hb⟩
  clear qG0 qG1 qG2 qG3
  have HB5 := Lib.hid (HB4.out.trans (hb.mono HB4.out.size))
  replace KG := Lib.hid (KG.out.bel hb)
  clear hb HB4
  clear M0
  go_upto_region 7 with fail
  go_upto_if 28 with fail
  go_cut [10] (fun want wx => ∃ n1 : Int, ∃ e : Int, want = .int .i64 e ∧ (-1000 ≤ n1 ∧ n1 ≤ 1000) ∧ Hid (Blk G #[.int .u32 (A : Int), .int .i64 (k : Int), .int .i64 (act : Int), .int .i64 n1] 24 wx) ∧ Hid (Below w.heap.size w wx) ∧ Hid (mayR A k act n1 m = e))
  case first =>
    cases t1
    · go_wp2_with fail
      go_meet
      exact ⟨(nx : Int), 0, rfl, by omega, KG, HB5, h4⟩
    · rcases hcase with ⟨rfl, hc⟩ | ⟨hc, rfl⟩
      · have q2 := KG.out.cell 2 rfl
        have q3 := KG.out.cell 3 rfl
        have z3 := KG.out.froz 3
        go_wp2_with fail
        go_meet
        exact ⟨(m : Int) + (nx : Int), 10, rfl, by omega, KG.out.set 3 _ rfl, HB5.out.setCell (p := ⟨G, 3, none⟩) LG.out _, mayR_next_no hmay (.inr (by omega))⟩
      · have q2 := KG.out.cell 2 rfl
        have q3 := KG.out.cell 3 rfl
        have z3 := KG.out.froz 3
        have u1 : ((act : Int) != 1) = true := by rw [bne_iff_ne]; omega
        go_wp2_with fail
        go_meet
        exact ⟨1, 10, rfl, by omega, KG.out.set 3 _ rfl, HB5.out.setCell (p := ⟨G, 3, none⟩) LG.out _, mayR_end_no _ hmay (by omega) (by omega)⟩
  case rest =>
    obtain ⟨n1, e1, rfl, hn1, KG1, HBa, ME1⟩ := hcut
    have hact0 : 1 ≤ (act : Int) := by omega
    clear hcase KG HB5 h4
    generalize wc = wa at *
    go_upto_region 12 with fail
    go_upto_if 40 with fail
    go_cut [10] (fun want wx => ∃ c1 : Int, ∃ e : Int, want = .int .i64 e ∧ (0 ≤ c1 ∧ c1 ≤ 10) ∧ Hid (Blk G #[.int .u32 (A : Int), .int .i64 (k : Int), .int .i64 c1, .int .i64 n1] 24 wx) ∧ Hid (Below w.heap.size w wx) ∧ Hid (mayR A k c1 n1 m = e))
    case first =>
      cases t2
      · go_wp2_with fail
        go_meet
        exact ⟨(act : Int), e1, rfl, by omega, KG1, HBa, ME1⟩
      · have q2 := KG1.out.cell 2 rfl
        have z2 := KG1.out.froz 2
        go_wp2_with fail
        go_meet
        exact ⟨4 + (act : Int), 9, rfl, by omega, KG1.out.set 2 _ rfl, HBa.out.setCell (p := ⟨G, 2, none⟩) LG.out _, mayR_act _ _ hmay (by omega) (by omega) (by omega)⟩
    case rest =>
      obtain ⟨c1, e2, rfl, hc1, KG2, HBb, ME2⟩ := hcut
      clear KG1 HBa ME1 hmay
      generalize wc = wb at *
      go_upto_region 15 with fail
      have q1 := KG2.out.cell 1 rfl
      go_cut [52] (fun b wx => ∃ t5 : Bool, b = .bool t5 ∧ Hid (t5 = true → k < 32) ∧ wx = wb)
      case first =>
        cases t3
        · go_wp2_with fail
          go_meet
          exact ⟨false, rfl, (fun h => by cases h), rfl⟩
        · by_cases h32 : k < 32
          · have hd : decide ((k : Int) < 32) = true := decide_eq_true (by omega)
            have hd2 : (k : Int) < 32 := by omega
            go_wp2_with fail
            go_meet
            exact ⟨true, rfl, fun _ => h32, rfl⟩
          · have hd : decide ((k : Int) < 32) = false := decide_eq_false (by omega)
            have hd2 : ¬ (k : Int) < 32 := by omega
            go_wp2_with fail
            go_meet
            exact ⟨false, rfl, (fun h => by cases h), rfl⟩
      case rest =>
        obtain ⟨t5, rfl, H5, rfl⟩ := hcut
        clear q1
        go_upto_if 52 with fail
        go_cut [10] (fun want wx => ∃ A3 : Nat, ∃ e : Int, want = .int .i64 e ∧ ((A3 : Int) ≤ 4294967295) ∧ Hid (Blk G #[.int .u32 (A3 : Int), .int .i64 (k : Int), .int .i64 c1, .int .i64 n1] 24 wx) ∧ Hid (Below w.heap.size w wx) ∧ Hid (mayR A3 k c1 n1 m = e))
        case first =>
          cases t5
          · go_wp2_with fail
            go_meet
            exact ⟨A, e2, rfl, hA, KG2, HBb, ME2⟩
          · have q0 := KG2.out.cell 0 rfl
            have z0 := KG2.out.froz 0
            have ho := u32_or_nat A 1 (by omega) (by omega)
            have hx : (A ||| 1) < 4294967296 := Nat.or_lt_two_pow (n := 32) (by omega) (by omega)
            have h8 := odd_host A k (H5.out rfl)
            generalize hA3 : (A ||| 1) = A3 at *
            have ho2 : bits BinOp.or IntKind.u32 (A : Int) 1 = (A3 : Int) := ho
            go_wp2_with fail
            go_meet
            exact ⟨A3, 8, rfl, by omega, KG2.out.set 0 _ rfl, HBb.out.setCell (p := ⟨G, 0, none⟩) LG.out _, by show _ = _; rw [mayR_pfx _ _ _ (by rw [h8]; decide), h8]⟩
        case rest =>
          obtain ⟨A3, e3, rfl, hA3, KG3, HBd, ME3⟩ := hcut
          clear KG2 HBb ME2 H5
          generalize wc = wd at *
          go_upto_region 18 with fail
          go_upto_if 59 with fail
          go_cut [10] (fun want wx => ∃ k4 : Int, ∃ e : Int, want = .int .i64 e ∧ (0 ≤ k4 ∧ k4 ≤ 100) ∧ Hid (Blk G #[.int .u32 (A3 : Int), .int .i64 k4, .int .i64 c1, .int .i64 n1] 24 wx) ∧ Hid (Below w.heap.size w wx) ∧ Hid (mayR A3 k4 c1 n1 m = e))
          case first =>
            cases t4
            · go_wp2_with fail
              go_meet
              exact ⟨(k : Int), e3, rfl, by omega, KG3, HBd, ME3⟩
            · have q1 := KG3.out.cell 1 rfl
              have z1 := KG3.out.froz 1
              have h1 := big_len A3 (33 + (k : Int)) (by omega)
              go_wp2_with fail
              go_meet
              exact ⟨33 + (k : Int), 1, rfl, by omega, KG3.out.set 1 _ rfl, HBd.out.setCell (p := ⟨G, 1, none⟩) LG.out _, by show _ = _; rw [mayR_pfx _ _ _ (by rw [h1]; decide), h1]⟩
          case rest =>
            obtain ⟨k4, e4, rfl, hk4, KG4, HBe, ME4⟩ := hcut
            clear KG3 HBd ME3
            generalize wc = we at *
            have MM := Lib.hid (fun w => mayr_any A3 k4 c1 n1 m w hA3)
            have MP := Lib.hid (fun w => may_any A3 k4 w hA3)
            have hy := may_pfx A3 k4 c1 n1 m
            rw [ME4.out] at MM hy
            generalize mayI A3 k4 = y at *
            have s1 : (e4 == e4) = true := by simp
            have HN : Hid (∀ wx, Below we.heap.size we wx → wx.cell? ⟨G, 0, none⟩ = some (.int .u32 (A3 : Int)) ∧ wx.cell? ⟨G, 1, none⟩ = some (.int .i64 k4) ∧ wx.cell? ⟨G, 2, none⟩ = some (.int .i64 c1) ∧ wx.cell? ⟨G, 3, none⟩ = some (.int .i64 n1)) := fun wx hx => ⟨(KG4.out.bel hx).cell 0 rfl, (KG4.out.bel hx).cell 1 rfl, (KG4.out.bel hx).cell 2 rfl, (KG4.out.bel hx).cell 3 rfl⟩
            clear ME4 ht1 ht2 ht3 ht4
            go_upto_region 21 with fail
            obtain ⟨k0, k1, k2, k3⟩ := HN.out we (Below.refl _ _)
            have HD := Lib.hid (Below.refl we.heap.size we).drew
            go_cut [6] (fun r wx => r = .bool true ∧ Hid (Below we.heap.size we wx))
            case first =>
              by_cases hz : y = 0
              · subst hz
                clear hy
                refine wp_region_held_drew (S := fun w' => w'.cell? ⟨G, 0, none⟩ = some (.int .u32 (A3 : Int)) ∧ w'.cell? ⟨G, 1, none⟩ = some (.int .i64 k4) ∧ w'.cell? ⟨G, 2, none⟩ = some (.int .i64 c1) ∧ w'.cell? ⟨G, 3, none⟩ = some (.int .i64 n1)) (by kernel_rfl) (HN.out _ HD.out) (fun hHeld => ?_)
                refine wpAnyH_take (i := 0) (oi := ({ dst := some 64, op := Op.load 24 (Operand.tmp 9), type := 24, pos := "law.go:78", after := #[], guard := none } : Oper)) (v := ?_) rfl (by kernel_rfl) (by kernel_rfl) (by kernel_rfl) (fun _ _ _ h => h) (Or.inl ⟨by rfl, ?_⟩) (by assumption) ?_
                rotate_left 1
                · intro w hSw
                  (try dsimp only at hSw)
                  go_simp
                  try with_reducible rfl
                try simp only [Act.put, List.setIfInBounds_toArray, List.set_cons_zero, List.set_cons_succ]
                refine wpAnyH_take (i := 1) (oi := ({ dst := some 65, op := Op.move (Operand.tmp 8), type := 3, pos := "law.go:78", after := #[], guard := none } : Oper)) (v := ?_) rfl (by kernel_rfl) (by kernel_rfl) (by kernel_rfl) (fun _ _ _ h => h) (Or.inl ⟨by rfl, ?_⟩) (by assumption) ?_
                rotate_left 1
                · intro w hSw
                  (try dsimp only at hSw)
                  go_simp
                  try with_reducible rfl
                try simp only [Act.put, List.setIfInBounds_toArray, List.set_cons_zero, List.set_cons_succ]
                refine wpAnyH_take (i := 3) (oi := ({ dst := some 67, op := Op.move (Operand.tmp 10), type := 28, pos := "law.go:78", after := #[], guard := none } : Oper)) (v := ?_) rfl (by kernel_rfl) (by kernel_rfl) (by kernel_rfl) (fun _ _ _ h => h) (Or.inl ⟨by rfl, ?_⟩) (by assumption) ?_
                rotate_left 1
                · intro w hSw
                  (try dsimp only at hSw)
                  go_simp
                  try with_reducible rfl
                try simp only [Act.put, List.setIfInBounds_toArray, List.set_cons_zero, List.set_cons_succ]
                refine wpAnyH_ready (rs := [2]) (by kernel_rfl) (by simp) ?_
                refine AllReadyH.cons rfl (fun K hK => ?_) AllReadyH.nil
                go_simp
                go_at_call 14
                refine (MM.out _).mono ?_
                rintro e w31 ⟨rfl, hb1⟩
                have D1 := Lib.hid (HD.out.trans (hb1.mono HD.out.size))
                refine hK.out _ _ (HN.out _ D1.out) (fun hHeld => ?_)
                clear hK K
                try simp only [Act.put, List.setIfInBounds_toArray, List.set_cons_zero, List.set_cons_succ]
                clear hb1
                refine wpAnyH_take (i := 4) (oi := ({ dst := some 68, op := Op.binOp BinOp.eql 28 (Operand.tmp 66) (Operand.tmp 67) 28, type := 4, pos := "law.go:78", after := #[{ on := 2, ground := Ground.data }, { on := 3, ground := Ground.data }], guard := none } : Oper)) (v := ?_) rfl (by kernel_rfl) (by kernel_rfl) (by kernel_rfl) (fun _ _ _ h => h) (Or.inl ⟨by rfl, ?_⟩) (by assumption) ?_
                rotate_left 1
                · intro w hSw
                  (try dsimp only at hSw)
                  go_simp
                  try with_reducible rfl
                try simp only [Act.put, List.setIfInBounds_toArray, List.set_cons_zero, List.set_cons_succ]
                refine wpAnyH_take (i := 5) (oi := ({ dst := some 69, op := Op.move (Operand.tmp 68), type := 4, pos := "law.go:78", after := #[{ on := 4, ground := Ground.data }, { on := 2, ground := Ground.chain }], guard := none } : Oper)) (v := ?_) rfl (by kernel_rfl) (by kernel_rfl) (by kernel_rfl) (fun _ _ _ h => h) (Or.inl ⟨by rfl, ?_⟩) (by assumption) ?_
                rotate_left 1
                · intro w hSw
                  (try dsimp only at hSw)
                  go_simp
                  try with_reducible rfl
                try simp only [Act.put, List.setIfInBounds_toArray, List.set_cons_zero, List.set_cons_succ]
                refine wpAnyH_take (i := 6) (oi := ({ dst := some 70, op := Op.fieldAddr 24 (Operand.tmp 9) 0, type := 0, pos := "law.go:78", after := #[{ on := 5, ground := Ground.guard }], guard := some (5, true) } : Oper)) (v := ?_) rfl (by kernel_rfl) (by kernel_rfl) (by kernel_rfl) (fun _ _ _ h => h) (Or.inl ⟨by rfl, ?_⟩) (by assumption) ?_
                rotate_left 1
                · intro w hSw
                  (try dsimp only at hSw)
                  go_simp
                  try with_reducible rfl
                try simp only [Act.put, List.setIfInBounds_toArray, List.set_cons_zero, List.set_cons_succ]
                refine wpAnyH_take (i := 7) (oi := ({ dst := some 71, op := Op.load 22 (Operand.tmp 70), type := 22, pos := "law.go:78", after := #[{ on := 6, ground := Ground.data }, { on := 5, ground := Ground.guard }], guard := some (5, true) } : Oper)) (v := ?_) rfl (by kernel_rfl) (by kernel_rfl) (by kernel_rfl) (fun _ _ _ h => h) (Or.inl ⟨by rfl, ?_⟩) (by assumption) ?_
                rotate_left 1
                · intro w hSw
                  (try dsimp only at hSw)
                  go_simp
                  try with_reducible rfl
                try simp only [Act.put, List.setIfInBounds_toArray, List.set_cons_zero, List.set_cons_succ]
                refine wpAnyH_take (i := 8) (oi := ({ dst := some 72, op := Op.fieldAddr 24 (Operand.tmp 9) 1, type := 0, pos := "law.go:78", after := #[{ on := 5, ground := Ground.guard }], guard := some (5, true) } : Oper)) (v := ?_) rfl (by kernel_rfl) (by kernel_rfl) (by kernel_rfl) (fun _ _ _ h => h) (Or.inl ⟨by rfl, ?_⟩) (by assumption) ?_
                rotate_left 1
                · intro w hSw
                  (try dsimp only at hSw)
                  go_simp
                  try with_reducible rfl
                try simp only [Act.put, List.setIfInBounds_toArray, List.set_cons_zero, List.set_cons_succ]
                refine wpAnyH_take (i := 9) (oi := ({ dst := some 73, op := Op.load 3 (Operand.tmp 72), type := 3, pos := "law.go:78", after := #[{ on := 8, ground := Ground.data }, { on := 5, ground := Ground.guard }], guard := some (5, true) } : Oper)) (v := ?_) rfl (by kernel_rfl) (by kernel_rfl) (by kernel_rfl) (fun _ _ _ h => h) (Or.inl ⟨by rfl, ?_⟩) (by assumption) ?_
                rotate_left 1
                · intro w hSw
                  (try dsimp only at hSw)
                  go_simp
                  try with_reducible rfl
                try simp only [Act.put, List.setIfInBounds_toArray, List.set_cons_zero, List.set_cons_succ]
                refine wpAnyH_ready (rs := [10]) (by kernel_rfl) (by simp) ?_
                refine AllReadyH.cons rfl (fun K hK => ?_) AllReadyH.nil
                go_simp
                go_at_call 19
                refine (MP.out _).mono ?_
                rintro e w32 ⟨rfl, hb2⟩
                have D2 := Lib.hid (D1.out.trans (hb2.mono D1.out.size))
                refine hK.out _ _ (HN.out _ D2.out) (fun hHeld => ?_)
                clear hK K
                try simp only [Act.put, List.setIfInBounds_toArray, List.set_cons_zero, List.set_cons_succ]
                clear hb2
                refine wpAnyH_take (i := 11) (oi := ({ dst := some 75, op := Op.binOp BinOp.eql 28 (Operand.tmp 74) (Operand.const (Value.int IntKind.i64 0)) 28, type := 4, pos := "law.go:78", after := #[{ on := 10, ground := Ground.data }, { on := 5, ground := Ground.guard }], guard := some (5, true) } : Oper)) (v := ?_) rfl (by kernel_rfl) (by kernel_rfl) (by kernel_rfl) (fun _ _ _ h => h) (Or.inl ⟨by rfl, ?_⟩) (by assumption) ?_
                rotate_left 1
                · intro w hSw
                  (try dsimp only at hSw)
                  go_simp
                  try with_reducible rfl
                try simp only [Act.put, List.setIfInBounds_toArray, List.set_cons_zero, List.set_cons_succ]
                refine wpAnyH_take (i := 12) (oi := ({ dst := some 76, op := Op.move (Operand.tmp 75), type := 4, pos := "law.go:78", after := #[{ on := 11, ground := Ground.data }, { on := 10, ground := Ground.chain }, { on := 5, ground := Ground.guard }], guard := some (5, true) } : Oper)) (v := ?_) rfl (by kernel_rfl) (by kernel_rfl) (by kernel_rfl) (fun _ _ _ h => h) (Or.inl ⟨by rfl, ?_⟩) (by assumption) ?_
                rotate_left 1
                · intro w hSw
                  (try dsimp only at hSw)
                  go_simp
                  try with_reducible rfl
                try simp only [Act.put, List.setIfInBounds_toArray, List.set_cons_zero, List.set_cons_succ]
                refine wpAnyH_take (i := 13) (oi := ({ dst := some 77, op := Op.load 24 (Operand.tmp 9), type := 24, pos := "law.go:78", after := #[{ on := 12, ground := Ground.guard }], guard := some (12, false) } : Oper)) (v := undef) rfl (by kernel_rfl) (by kernel_rfl) (by kernel_rfl) (fun _ _ _ h => h) (Or.inr ⟨by rfl, rfl⟩) (by assumption) ?_
                try simp only [Act.put, List.setIfInBounds_toArray, List.set_cons_zero, List.set_cons_succ]
                refine wpAnyH_take (i := 14) (oi := ({ dst := some 78, op := Op.move (Operand.tmp 8), type := 3, pos := "law.go:78", after := #[{ on := 12, ground := Ground.guard }], guard := some (12, false) } : Oper)) (v := undef) rfl (by kernel_rfl) (by kernel_rfl) (by kernel_rfl) (fun _ _ _ h => h) (Or.inr ⟨by rfl, rfl⟩) (by assumption) ?_
                try simp only [Act.put, List.setIfInBounds_toArray, List.set_cons_zero, List.set_cons_succ]
                refine wpAnyH_take (i := 15) (oi := ({ dst := some 79, op := Op.call { callee := Callee.value (Operand.func 14), args := #[Operand.tmp 77, Operand.tmp 78], argTypes := #[24, 3] }, type := 28, pos := "law.go:78", after := #[{ on := 13, ground := Ground.data }, { on := 14, ground := Ground.data }, { on := 12, ground := Ground.chain }, { on := 12, ground := Ground.guard }], guard := some (12, false) } : Oper)) (v := undef) rfl (by kernel_rfl) (by kernel_rfl) (by kernel_rfl) (fun _ _ _ h => h) (Or.inr ⟨by rfl, rfl⟩) (by assumption) ?_
                try simp only [Act.put, List.setIfInBounds_toArray, List.set_cons_zero, List.set_cons_succ]
                refine wpAnyH_take (i := 16) (oi := ({ dst := some 80, op := Op.fieldAddr 24 (Operand.tmp 9) 0, type := 0, pos := "law.go:78", after := #[{ on := 12, ground := Ground.guard }], guard := some (12, false) } : Oper)) (v := undef) rfl (by kernel_rfl) (by kernel_rfl) (by kernel_rfl) (fun _ _ _ h => h) (Or.inr ⟨by rfl, rfl⟩) (by assumption) ?_
                try simp only [Act.put, List.setIfInBounds_toArray, List.set_cons_zero, List.set_cons_succ]
                refine wpAnyH_take (i := 17) (oi := ({ dst := some 81, op := Op.load 22 (Operand.tmp 80), type := 22, pos := "law.go:78", after := #[{ on := 16, ground := Ground.data }, { on := 12, ground := Ground.guard }], guard := some (12, false) } : Oper)) (v := undef) rfl (by kernel_rfl) (by kernel_rfl) (by kernel_rfl) (fun _ _ _ h => h) (Or.inr ⟨by rfl, rfl⟩) (by assumption) ?_
                try simp only [Act.put, List.setIfInBounds_toArray, List.set_cons_zero, List.set_cons_succ]
                refine wpAnyH_take (i := 18) (oi := ({ dst := some 82, op := Op.fieldAddr 24 (Operand.tmp 9) 1, type := 0, pos := "law.go:78", after := #[{ on := 12, ground := Ground.guard }], guard := some (12, false) } : Oper)) (v := undef) rfl (by kernel_rfl) (by kernel_rfl) (by kernel_rfl) (fun _ _ _ h => h) (Or.inr ⟨by rfl, rfl⟩) (by assumption) ?_
                try simp only [Act.put, List.setIfInBounds_toArray, List.set_cons_zero, List.set_cons_succ]
                refine wpAnyH_take (i := 19) (oi := ({ dst := some 83, op := Op.load 3 (Operand.tmp 82), type := 3, pos := "law.go:78", after := #[{ on := 18, ground := Ground.data }, { on := 12, ground := Ground.guard }], guard := some (12, false) } : Oper)) (v := undef) rfl (by kernel_rfl) (by kernel_rfl) (by kernel_rfl) (fun _ _ _ h => h) (Or.inr ⟨by rfl, rfl⟩) (by assumption) ?_
                try simp only [Act.put, List.setIfInBounds_toArray, List.set_cons_zero, List.set_cons_succ]
                refine wpAnyH_take (i := 20) (oi := ({ dst := some 84, op := Op.call { callee := Callee.value (Operand.func 19), args := #[Operand.tmp 81, Operand.tmp 83], argTypes := #[22, 3] }, type := 28, pos := "law.go:78", after := #[{ on := 17, ground := Ground.data }, { on := 19, ground := Ground.data }, { on := 15, ground := Ground.chain }, { on := 12, ground := Ground.guard }], guard := some (12, false) } : Oper)) (v := undef) rfl (by kernel_rfl) (by kernel_rfl) (by kernel_rfl) (fun _ _ _ h => h) (Or.inr ⟨by rfl, rfl⟩) (by assumption) ?_
                try simp only [Act.put, List.setIfInBounds_toArray, List.set_cons_zero, List.set_cons_succ]
                refine wpAnyH_take (i := 21) (oi := ({ dst := some 85, op := Op.binOp BinOp.eql 28 (Operand.tmp 79) (Operand.tmp 84) 28, type := 4, pos := "law.go:78", after := #[{ on := 15, ground := Ground.data }, { on := 20, ground := Ground.data }, { on := 12, ground := Ground.guard }], guard := some (12, false) } : Oper)) (v := undef) rfl (by kernel_rfl) (by kernel_rfl) (by kernel_rfl) (fun _ _ _ h => h) (Or.inr ⟨by rfl, rfl⟩) (by assumption) ?_
                try simp only [Act.put, List.setIfInBounds_toArray, List.set_cons_zero, List.set_cons_succ]
                refine wpAnyH_take (i := 22) (oi := ({ dst := some 86, op := Op.pick (Operand.tmp 76) (Operand.const (Value.bool true)) (Operand.tmp 85), type := 4, pos := "law.go:78", after := #[{ on := 12, ground := Ground.data }, { on := 21, ground := Ground.data }, { on := 5, ground := Ground.guard }], guard := some (5, true) } : Oper)) (v := ?_) rfl (by kernel_rfl) (by kernel_rfl) (by kernel_rfl) (fun _ _ _ h => h) (Or.inl ⟨by rfl, ?_⟩) (by assumption) ?_
                rotate_left 1
                · intro w hSw
                  (try dsimp only at hSw)
                  go_simp
                  try with_reducible rfl
                try simp only [Act.put, List.setIfInBounds_toArray, List.set_cons_zero, List.set_cons_succ]
                refine wpAnyH_take (i := 23) (oi := ({ dst := some 87, op := Op.pick (Operand.tmp 69) (Operand.tmp 86) (Operand.const (Value.bool false)), type := 4, pos := "law.go:78", after := #[{ on := 5, ground := Ground.data }, { on := 22, ground := Ground.data }], guard := none } : Oper)) (v := ?_) rfl (by kernel_rfl) (by kernel_rfl) (by kernel_rfl) (fun _ _ _ h => h) (Or.inl ⟨by rfl, ?_⟩) (by assumption) ?_
                rotate_left 1
                · intro w hSw
                  (try dsimp only at hSw)
                  go_simp
                  try with_reducible rfl
                try simp only [Act.put, List.setIfInBounds_toArray, List.set_cons_zero, List.set_cons_succ]
                refine wpAnyH_take (i := 24) (oi := ({ dst := some 6, op := Op.assign (Operand.tmp 87), type := 4, pos := "law.go:78", after := #[{ on := 23, ground := Ground.data }, { on := 20, ground := Ground.chain }, { on := 0, ground := Ground.phase }, { on := 1, ground := Ground.phase }, { on := 2, ground := Ground.phase }, { on := 3, ground := Ground.phase }, { on := 4, ground := Ground.phase }, { on := 5, ground := Ground.phase }, { on := 6, ground := Ground.phase }, { on := 7, ground := Ground.phase }, { on := 8, ground := Ground.phase }, { on := 9, ground := Ground.phase }, { on := 10, ground := Ground.phase }, { on := 11, ground := Ground.phase }, { on := 12, ground := Ground.phase }, { on := 13, ground := Ground.phase }, { on := 14, ground := Ground.phase }, { on := 15, ground := Ground.phase }, { on := 16, ground := Ground.phase }, { on := 17, ground := Ground.phase }, { on := 18, ground := Ground.phase }, { on := 19, ground := Ground.phase }, { on := 20, ground := Ground.phase }, { on := 21, ground := Ground.phase }, { on := 22, ground := Ground.phase }, { on := 23, ground := Ground.phase }], guard := none } : Oper)) (v := ?_) rfl (by kernel_rfl) (by kernel_rfl) (by kernel_rfl) (fun _ _ _ h => h) (Or.inl ⟨by rfl, ?_⟩) (by assumption) ?_
                rotate_left 1
                · intro w hSw
                  (try dsimp only at hSw)
                  go_simp
                  try with_reducible rfl
                try simp only [Act.put, List.setIfInBounds_toArray, List.set_cons_zero, List.set_cons_succ]
                refine wpAnyH_done (by kernel_rfl) ?_ _
                go_wp2_with fail
                go_meet
                exact ⟨rfl, D2⟩
              · have hy2 : e4 = y := by rcases hy with hy | hy; exact absurd hy hz; exact hy
                subst hy2
                have s2 : (e4 == 0) = false := by rw [beq_eq_false_iff_ne]; exact hz
                clear hy
                go_region_held3 (fun w' => w'.cell? ⟨G, 0, none⟩ = some (.int .u32 (A3 : Int)) ∧ w'.cell? ⟨G, 1, none⟩ = some (.int .i64 k4) ∧ w'.cell? ⟨G, 2, none⟩ = some (.int .i64 c1) ∧ w'.cell? ⟨G, 3, none⟩ = some (.int .i64 n1))
                  (first | go_keep | exact HN.out _ D4.out | exact HN.out _ D3.out | exact HN.out _ D2.out | exact HN.out _ D1.out)
                  (first
                    | (go_simp; go_at_call 14; refine (MM.out _).mono ?_; rintro e w33 ⟨rfl, hb3⟩; have D3 := Lib.hid (D2.out.trans (hb3.mono D2.out.size)); clear hb3)
                    | (go_simp; go_at_call 14; refine (MM.out _).mono ?_; rintro e w31 ⟨rfl, hb1⟩; have D1 := Lib.hid (HD.out.trans (hb1.mono HD.out.size)); clear hb1)
                    | (go_simp; go_at_call 19; refine (MP.out _).mono ?_; rintro e w34 ⟨rfl, hb4⟩; have D4 := Lib.hid (D3.out.trans (hb4.mono D3.out.size)); clear hb4)
                    | (go_simp; go_at_call 19; refine (MP.out _).mono ?_; rintro e w32 ⟨rfl, hb2⟩; have D2 := Lib.hid (D1.out.trans (hb2.mono D1.out.size)); clear hb2))
                all_goals
                  go_wp2_with fail
                  go_meet
                  exact ⟨rfl, D4⟩
            case rest =>
              obtain ⟨rfl, HBc⟩ := hcut
              go_wp2_with fail
              go_ret
              exact ⟨rfl, HBe.out.trans (HBc.out.mono HBe.out.size)⟩
end Go.Proofs.Ytchbghnkfjandaa
