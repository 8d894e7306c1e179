/- The walk of theseuslaw09.NetworkAll. -/
import Derived.Test.YtpfpkghihpcbkaaL09
import Derived.Test.YtpfpkghihpcbkaaL09f
import Derived.Test.YtpfpkghihpcbkaaRef09w
import Derived.Test.YtpfpkghihpcbkaaRef09l
import Derived.Test.YtpfpkghihpcbkaaRef09f
import Derived.Deep.DeepCutAuto
import Derived.Deep.RegionHeld3
namespace Go.Proofs.Ytpfpkghihpcbkaa
open Go.RowKit
set_option linter.unusedVariables false
set_option linter.unusedSimpArgs false

theorem sz_small {N : Nt} (h1 : N.length ≤ 8) (h2 : ∀ l ∈ N, l.length ≤ 20) : szN N ≤ 1000000 := by
  have h := szN_bound h2
  have : N.length * 20 ≤ 8 * 20 := Nat.mul_le_mul_right 20 h1
  omega
/-- what a round knows of its network -/
structure Small (T : Nt) (NT : Nat) : Prop where
  len : T.length = NT
  le : NT ≤ 8
  sz : szN T ≤ 1000000
  wf : WfN T
theorem Small.mk' {T : Nt} (h1 : T.length ≤ 8) (h2 : ∀ l ∈ T, l.length ≤ 20) (h3 : WfN T) : Small T T.length := ⟨rfl, h1, sz_small h1 h2, h3⟩
set_option maxRecDepth 100000 in
set_option maxHeartbeats 8000000 in
theorem walkNetworkAll (a0 : Option Addr) (n0 c0 : Nat) (l0 : Nt) (a1 : Int) (l2 : List Int) (w : World) (w0 : InNet w a0 n0 c0 l0) (w1 : (Lit.int .u32 a1).wf = true) (w2 : l2.length = 2 ∧ ∀ x ∈ l2, (Lit.int .i64 x).wf = true) :
    Calls Try.prog 3 #[.agg #[.slice a0 n0 c0], .int .u32 a1, .agg (l2.map (Value.int .i64)).toArray] w fun e w' => e = .returned (.bool true) ∧ Below w.heap.size w w' := by
  obtain ⟨hl1, hh1⟩ := bounds_u32 w1
  obtain ⟨a, rfl⟩ := Int.eq_ofNat_of_zero_le hl1
  have ha : (a : Int) ≤ 4294967295 := by omega
  clear w1 hl1 hh1
  obtain ⟨x0, x1, rfl⟩ : ∃ x0 x1, l2 = [x0, x1] := by
    match l2, w2.1 with
    | [x0, x1], _ => exact ⟨x0, x1, rfl⟩
  clear w2
  have VR := Lib.hid w0.isn
  have HWF := Lib.hid w0.wf
  have FF := Lib.hid (fun v w hv => few9 v l0 w hv)
  have FT := Lib.hid (fun v w hv => rfitN_own v l0 w hv HWF.out)
  have HS1 : Hid (Small (fewN l0) (fewN l0).length) := Small.mk' (fewN_len l0) fewN_le (fewN_wf HWF.out)
  have HS2 : Hid (Small (fitNt l0) (fitNt l0).length) := Small.mk' (by rw [fitNt_len]; exact (manyN_bd l0).2) fitNt_le (fitNt_wf HWF.out)
  clear w0
  have VR0 : Hid (∀ wx, Below w.heap.size w wx → IsN wx (.agg #[.slice a0 n0 c0]) l0) := fun wx hx => VR.out.bel hx
  have HB0 := Lib.hid (Below.refl w.heap.size w)
  go_enter Try.func3, Try.ntmps3
  go_wp2_with fail
  obtain ⟨w1, hW⟩ : ∃ W, (w.alloc (.cells #[.slice a0 n0 c0] 24)).alloc (.cells #[.int .i64 x0, .int .i64 x1] 26) = W := ⟨_, rfl⟩
  obtain ⟨g, hG⟩ : ∃ G, w.heap.size = G := ⟨_, rfl⟩
  obtain ⟨h, hH⟩ : ∃ H, g + 1 = H := ⟨_, rfl⟩
  rw [hW, hG, hH]
  have hb : Below w.heap.size w w1 := by subst hW; exact ((Below.refl _ _).alloc (Nat.le_refl _) _).alloc (by simp only [World.size_alloc]; omega) _
  have HB1 := Lib.hid (HB0.out.trans (hb.mono HB0.out.size))
  have Lg : Hid (w.heap.size ≤ g) := by subst hG; exact HB0.out.size
  have Lh : Hid (w.heap.size ≤ h) := by subst hG hH; show _ ≤ _; have := HB0.out.size; omega
  replace VR := Lib.hid (VR.out.bel hb)
  have Kg : Hid (Blk g #[.slice a0 n0 c0] 24 w1) := by subst hW hG; exact (Blk.new _ _ _).bel ((Below.refl _ _).alloc (Nat.le_refl _) _)
  have Kh : Hid (Blk h #[.int .i64 x0, .int .i64 x1] 26 w1) := by
    subst hW hG hH
    have h := Blk.new (w.alloc (.cells #[.slice a0 n0 c0] 24)) #[.int .i64 x0, .int .i64 x1] 26
    rw [World.size_alloc] at h
    exact h
  clear hb hW hG hH HB0
  refine (shown9 w1).mono ?_
  rintro e1 w2 ⟨rfl, hb⟩
  have HB2 := Lib.hid (HB1.out.trans (hb.mono HB1.out.size))
  replace VR := Lib.hid (VR.out.bel hb)
  replace Kg := Lib.hid (Kg.out.bel hb)
  replace Kh := Lib.hid (Kh.out.bel hb)
  clear hb HB1
  have qg0 := Kg.out.cell 0 rfl
  go_wp2_with fail
  refine (FF.out _ w2 VR.out).mono ?_
  rintro e1 w3 ⟨tv, rfl, hown, hb⟩
  clear qg0
  have HB3 := Lib.hid (HB2.out.trans (hb.mono HB2.out.size))
  replace VR := Lib.hid (VR.out.bel hb)
  replace Kg := Lib.hid (Kg.out.bel hb)
  replace Kh := Lib.hid (Kh.out.bel hb)
  have VT := Lib.hid (hown)
  clear hb HB2
  clear hown FF
  obtain ⟨AT, cT, rfl, _, _, _⟩ := VT.out.slice
  go_upto_region 3 with fail
  obtain ⟨w4, hW⟩ : ∃ W, w3.alloc (.cells #[.slice AT (fewN l0).length cT] 24) = W := ⟨_, rfl⟩
  obtain ⟨B, hG⟩ : ∃ G, w3.heap.size = G := ⟨_, rfl⟩
  rw [hW, hG]
  have hb : Below w3.heap.size w3 w4 := by subst hW; exact (Below.refl _ _).alloc (Nat.le_refl _) _
  have HB4 := Lib.hid (HB3.out.trans (hb.mono HB3.out.size))
  have LB : Hid (w.heap.size ≤ B) := by subst hG; exact HB3.out.size
  have NgB : Hid (g < B) := by subst hG; exact Kg.out.size
  have NhB : Hid (h < B) := by subst hG; exact Kh.out.size
  replace VR := Lib.hid (VR.out.bel hb)
  replace Kg := Lib.hid (Kg.out.bel hb)
  replace Kh := Lib.hid (Kh.out.bel hb)
  replace VT := Lib.hid (VT.out.bel hb)
  have KB : Hid (Blk B #[.slice AT (fewN l0).length cT] 24 w4) := by subst hW hG; exact Blk.new _ _ _
  clear hb hW hG HB3
  go_wp2_with fail
  have HBO : Hid (B ≠ g ∧ B ≠ h ∧ w.heap.size ≤ B) := ⟨by have := NgB.out; omega, by have := NhB.out; omega, LB.out⟩
  go_loopw [9] (fun i wr => ∃ (r : Int) (T : Nt) (NT : Nat) (AT : Option Addr) (cT : Nat), 0 ≤ r ∧ r ≤ 2 ∧ i = .int .i64 r ∧ Hid (Small T NT) ∧ Hid (Blk B #[.slice AT NT cT] 24 wr) ∧ Hid (IsN wr (.agg #[.slice AT NT cT]) T) ∧ Hid (Blk g #[.slice a0 n0 c0] 24 wr) ∧ Hid (Blk h #[.int .i64 x0, .int .i64 x1] 26 wr) ∧ Hid (Below w.heap.size w wr)) (fun i _ => (2 - intOf i).toNat)
  case atStart => exact ⟨0, _, _, AT, cT, by omega, by omega, rfl, HS1, KB, VT, Kg, Kh, HB4⟩
  case round =>
    clear VT KB Kg Kh HB4 VR HS1
    obtain ⟨r, T, NT, AT, cT, hr0, hr2, rfl, HSM, KB, VT, Kg, Kh, HB0⟩ := hrel
    generalize wr = wo at *
    have CL := Lib.hid (fun v w hv => nloop_any v T a w hv ha HSM.out.wf (by have := HSM.out.len; have := HSM.out.le; omega))
    have CL2 := Lib.hid (fun v w hv => rloop_any v T a w hv ha HSM.out.wf (by have := HSM.out.len; have := HSM.out.le; omega))
    have CM := Lib.hid (fun v w hv => nmay_any v T w hv HSM.out.sz HSM.out.wf)
    have CM2 := Lib.hid (fun v w hv => rmayN_any v T w hv HSM.out.sz HSM.out.wf)
    have CZ := Lib.hid (fun v w hv => nsize_any v T w hv HSM.out.sz)
    have CZ2 := Lib.hid (fun v w hv => rsize_any v T w hv HSM.out.sz)
    have CS := Lib.hid (fun v w u hv => nstep_any v T a u w hv ha HSM.out.wf)
    have CS2 := Lib.hid (fun v w u hv => rstep_any v T a u w hv ha HSM.out.wf)
    have CW := Lib.hid (fun v w u k hv => nwalk_any v T a u k w hv ha HSM.out.wf)
    have CW2 := Lib.hid (fun v w u k hv => rwalk_any v T a u k w hv ha HSM.out.wf)
    have hNT8 : (NT : Int) ≤ 8 := by have := HSM.out.le; omega
    by_cases hlt : r < 2
    · have q0 := KB.out.cell 0 rfl
      go_wp2_with fail
      refine (CL.out _ wo VT.out).mono ?_
      rintro e1 w1 ⟨lv, rfl, hl, hb⟩
      have HLV := Lib.hid hl
      replace HB0 := Lib.hid (HB0.out.trans (hb.mono HB0.out.size))
      replace VT := Lib.hid (VT.out.bel hb)
      replace KB := Lib.hid (KB.out.bel hb)
      replace Kg := Lib.hid (Kg.out.bel hb)
      replace Kh := Lib.hid (Kh.out.bel hb)
      clear hb hl q0
      have q0 := KB.out.cell 0 rfl
      go_wp2_with fail
      refine (CL2.out _ w1 VT.out).mono ?_
      rintro e1 w2 ⟨mv, rfl, hl, hb⟩
      have HMV := Lib.hid hl
      replace HLV := Lib.hid (HLV.out.bel hb)
      replace HB0 := Lib.hid (HB0.out.trans (hb.mono HB0.out.size))
      replace VT := Lib.hid (VT.out.bel hb)
      replace KB := Lib.hid (KB.out.bel hb)
      replace Kg := Lib.hid (Kg.out.bel hb)
      replace Kh := Lib.hid (Kh.out.bel hb)
      clear hb hl q0 CL CL2
      generalize (lpN T a).getD [] = lp at *
      generalize (lpN T a).isSome = ok at *
      have tok : (ok != ok) = false := by simp
      have CR : Hid (∀ wx, Below w2.heap.size w2 wx → Calls Try.prog 18 #[lv, mv] wx fun e w' => e = .returned (.bool true) ∧ Below wx.heap.size wx w') := fun wx hx => by
        have h := rrow_any lv mv lp lp wx (HLV.out.bel hx) (HMV.out.bel hx)
        rw [decide_eq_true (rfl : lp = lp)] at h
        exact h
      have HVX : Hid (∀ wx, Below w2.heap.size w2 wx → IsN wx (.agg #[.slice AT NT cT]) T) := fun wx hx => VT.out.bel hx
      have HQ : Hid (∀ wx, Below w2.heap.size w2 wx → wx.cell? ⟨B, 0, none⟩ = some (.slice AT NT cT)) := fun wx hx => (KB.out.bel hx).cell 0 rfl
      have HD := Lib.hid (Below.refl w2.heap.size w2).drew
      generalize mayN T = em at *
      generalize szN T = es at *
      have tm : (em != em) = false := by simp
      have ts : ((es : Int) != (es : Int)) = false := by simp
      go_upto_region 8 with fail
      have q0 := HQ.out w2 (Below.refl _ _)
      go_cut [69] (fun t wx => t = .bool false ∧ Hid (Below w2.heap.size w2 wx))
      case first =>
        go_region_held3 (fun w' => w'.cell? ⟨B, 0, none⟩ = some (.slice AT NT cT))
          (first | go_keep | exact HQ.out _ HD.out | exact HQ.out _ D1.out | exact HQ.out _ D2.out | exact HQ.out _ D3.out | exact HQ.out _ D4.out | exact HQ.out _ D5.out)
          (first
            | (go_simp; go_at_call 14; (with_reducible refine (CM.out _ _ (HVX.out _ HD.out)).mono ?_); rintro e8 w8 ⟨rfl, hb8⟩; have D1 := Lib.hid (HD.out.trans (hb8.mono HD.out.size)); clear hb8)
            | (go_simp; go_at_call 15; (with_reducible refine (CM2.out _ _ (HVX.out _ D1.out)).mono ?_); rintro e8 w9 ⟨rfl, hb8⟩; have D2 := Lib.hid (D1.out.trans (hb8.mono D1.out.size)); clear hb8)
            | (go_simp; go_at_call 16; (with_reducible refine (CZ.out _ _ (HVX.out _ D2.out)).mono ?_); rintro e8 w10 ⟨rfl, hb8⟩; have D3 := Lib.hid (D2.out.trans (hb8.mono D2.out.size)); clear hb8)
            | (go_simp; go_at_call 17; (with_reducible refine (CZ2.out _ _ (HVX.out _ D3.out)).mono ?_); rintro e8 w11 ⟨rfl, hb8⟩; have D4 := Lib.hid (D3.out.trans (hb8.mono D3.out.size)); clear hb8)
            | (go_simp; go_at_call 18; (with_reducible refine (CR.out _ D4.out).mono ?_); rintro e8 w12 ⟨rfl, hb8⟩; have D5 := Lib.hid (D4.out.trans (hb8.mono D4.out.size)); clear hb8))
        all_goals
          go_wp2_with fail
          go_meet
          exact ⟨rfl, D5⟩
      case rest =>
        obtain ⟨rfl, HBc⟩ := hcut
        generalize wc = w3 at *
        have hb := HBc.out
        replace HB0 := Lib.hid (HB0.out.trans (hb.mono HB0.out.size))
        replace VT := Lib.hid (VT.out.bel hb)
        replace KB := Lib.hid (KB.out.bel hb)
        replace Kg := Lib.hid (Kg.out.bel hb)
        replace Kh := Lib.hid (Kh.out.bel hb)
        clear hb HBc HD HQ HVX CR HLV HMV CM CM2 CZ CZ2 q0 tok tm ts
        go_wp2_with fail
        go_loopw [14] (fun i wr => ∃ v : Int, -1 ≤ v ∧ v ≤ (NT : Int) + 1 ∧ i = .int .i64 v ∧ Hid (Blk B #[.slice AT NT cT] 24 wr) ∧ Hid (IsN wr (.agg #[.slice AT NT cT]) T) ∧ Hid (Blk g #[.slice a0 n0 c0] 24 wr) ∧ Hid (Blk h #[.int .i64 x0, .int .i64 x1] 26 wr) ∧ Hid (Below w.heap.size w wr)) (fun i _ => (NT + 1 - intOf i).toNat)
        case atStart => exact ⟨-1, by omega, by omega, rfl, KB, VT, Kg, Kh, HB0⟩
        case round =>
          clear KB  VT  Kg  Kh  HB0
          obtain ⟨v, hv0, hv1, rfl, KB, VT, Kg, Kh, HB0⟩ := hrel
          generalize wr = wp at *
          have q0 := KB.out.cell 0 rfl
          have hvw : IntKind.i64.wrap (v + 1) = v + 1 := by rw [IntKind.wrap_i64]; omega
          by_cases hvl : v ≤ NT
          · have C1 := Lib.hid (fun w hv => CS.out (.agg #[.slice AT NT cT]) w v hv)
            have C2 := Lib.hid (fun w hv => CS2.out (.agg #[.slice AT NT cT]) w v hv)
            generalize resO (stN T a v) = o at *
            obtain ⟨s1, s2⟩ := o
            have t1 : (s1 != s1) = false := by simp
            have t2 : (s2 != s2) = false := by simp
            go_wp2_with fail
            refine (C1.out wp VT.out).mono ?_
            rintro e1 w4 ⟨rfl, hb⟩
            replace HB0 := Lib.hid (HB0.out.trans (hb.mono HB0.out.size))
            replace VT := Lib.hid (VT.out.bel hb)
            replace KB := Lib.hid (KB.out.bel hb)
            replace Kg := Lib.hid (Kg.out.bel hb)
            replace Kh := Lib.hid (Kh.out.bel hb)
            clear hb q0
            have q0 := KB.out.cell 0 rfl
            go_wp2_with fail
            refine (C2.out w4 VT.out).mono ?_
            rintro e1 w5 ⟨rfl, hb⟩
            replace HB0 := Lib.hid (HB0.out.trans (hb.mono HB0.out.size))
            replace VT := Lib.hid (VT.out.bel hb)
            replace KB := Lib.hid (KB.out.bel hb)
            replace Kg := Lib.hid (Kg.out.bel hb)
            replace Kh := Lib.hid (Kh.out.bel hb)
            clear hb q0 C1 C2
            go_wp2_with fail
            clear t1 t2
            go_loopw [19] (fun i wr => ∃ k : Int, -1 ≤ k ∧ k ≤ 10 ∧ i = .int .i64 k ∧ Hid (Blk B #[.slice AT NT cT] 24 wr) ∧ Hid (IsN wr (.agg #[.slice AT NT cT]) T) ∧ Hid (Blk g #[.slice a0 n0 c0] 24 wr) ∧ Hid (Blk h #[.int .i64 x0, .int .i64 x1] 26 wr) ∧ Hid (Below w.heap.size w wr)) (fun i _ => (10 - intOf i).toNat)
            case atStart => exact ⟨-1, by omega, by omega, rfl, KB, VT, Kg, Kh, HB0⟩
            case round =>
              clear KB  VT  Kg  Kh  HB0
              obtain ⟨k, hk0, hk1, rfl, KB, VT, Kg, Kh, HB0⟩ := hrel
              have q0 := KB.out.cell 0 rfl
              have hkw : IntKind.i64.wrap (k + 1) = k + 1 := by rw [IntKind.wrap_i64]; omega
              by_cases hkl : k < 10
              · have C1 := Lib.hid (fun w hv => CW.out (.agg #[.slice AT NT cT]) w v k hv)
                have C2 := Lib.hid (fun w hv => CW2.out (.agg #[.slice AT NT cT]) w v k hv)
                generalize resO (wkN T a v k) = o at *
                obtain ⟨y1, y2⟩ := o
                have t1 : (y1 != y1) = false := by simp
                have t2 : (y2 != y2) = false := by simp
                go_wp2_with fail
                refine (C1.out wr VT.out).mono ?_
                rintro e1 w6 ⟨rfl, hb⟩
                replace HB0 := Lib.hid (HB0.out.trans (hb.mono HB0.out.size))
                replace VT := Lib.hid (VT.out.bel hb)
                replace KB := Lib.hid (KB.out.bel hb)
                replace Kg := Lib.hid (Kg.out.bel hb)
                replace Kh := Lib.hid (Kh.out.bel hb)
                clear hb q0
                have q0 := KB.out.cell 0 rfl
                go_wp2_with fail
                refine (C2.out w6 VT.out).mono ?_
                rintro e1 w7 ⟨rfl, hb⟩
                replace HB0 := Lib.hid (HB0.out.trans (hb.mono HB0.out.size))
                replace VT := Lib.hid (VT.out.bel hb)
                replace KB := Lib.hid (KB.out.bel hb)
                replace Kg := Lib.hid (Kg.out.bel hb)
                replace Kh := Lib.hid (Kh.out.bel hb)
                clear hb q0 C1 C2
                go_wp2_with fail
                go_roundw
                case rel => exact ⟨k + 1, by omega, by omega, by go_num, KB, VT, Kg, Kh, HB0⟩
                case measure => simp [intOf]; omega
              · go_wp2_with fail
                go_roundw
                case rel => exact ⟨v + 1, by omega, by omega, by go_num, KB, VT, Kg, Kh, HB0⟩
                case measure => simp [intOf]; omega
          · have p0 := Kg.out.cell 0 rfl
            have hrw : IntKind.i64.wrap (r + 1) = r + 1 := by rw [IntKind.wrap_i64]; omega
            have VR2 : Hid (IsN wp (.agg #[.slice a0 n0 c0]) l0) := VR0.out wp HB0.out
            go_wp2_with fail
            refine (FT.out _ wp VR2.out).mono ?_
            rintro e1 w4 ⟨tv, rfl, hown, hb⟩
            replace HB0 := Lib.hid (HB0.out.trans (hb.mono HB0.out.size))
            have HOW := Lib.hid hown
            have hBp : B < wp.heap.size := KB.out.size
            replace KB := Lib.hid (KB.out.bel hb)
            replace Kg := Lib.hid (Kg.out.bel hb)
            replace Kh := Lib.hid (Kh.out.bel hb)
            clear hb q0 p0 hown VT
            obtain ⟨A2, c2, h2, _, _, _⟩ := HOW.out.isN.slice
            subst h2
            have HOW2 := Lib.hid (HOW.out.kept (setRow_grown w4 B #[.slice A2 (fitNt l0).length c2]) hBp).isN
            have KBB := KB.out
            have KB2 : Hid (Blk B #[.slice A2 (fitNt l0).length c2] 24 (w4.setRow B #[.slice A2 (fitNt l0).length c2])) := setRow_heap _ _ _ _ _ _ KBB
            have Kg2 : Hid (Blk g #[.slice a0 n0 c0] 24 (w4.setRow B #[.slice A2 (fitNt l0).length c2])) := (setRow_other _ _ _ _ (Ne.symm HBO.out.1)).trans Kg.out
            have Kh2 : Hid (Blk h #[.int .i64 x0, .int .i64 x1] 26 (w4.setRow B #[.slice A2 (fitNt l0).length c2])) := (setRow_other _ _ _ _ (Ne.symm HBO.out.2.1)).trans Kh.out
            have HB2 : Hid (Below w.heap.size w (w4.setRow B #[.slice A2 (fitNt l0).length c2])) := below_setRow HB0.out HBO.out.2.2 _
            clear KB Kg Kh HB0 HOW VR2
            go_wp2_with (first | (refine wpList_store_row rfl 24 (.tmp 8) (.tmp 128) rfl B #[.slice A2 (fitNt l0).length c2] rfl rfl 24 #[.slice AT NT cT] KBB rfl rfl (by simp [Value.oneCell']) ?_))
            go_roundw
            case rel => exact ⟨r + 1, _, _, A2, c2, by omega, by omega, by go_num, HS2, KB2, HOW2, Kg2, Kh2, HB2⟩
            case measure => simp [intOf]; omega
    · have C1 := Lib.hid (fun w hv => CW.out (.agg #[.slice AT NT cT]) w x0 x1 hv)
      have C2 := Lib.hid (fun w hv => CW2.out (.agg #[.slice AT NT cT]) w x0 x1 hv)
      generalize resO (wkN T a x0 x1) = o at *
      obtain ⟨y1, y2⟩ := o
      have t1 : (y1 == y1) = true := by simp
      have t2 : (y2 == y2) = true := by simp
      have q0 := KB.out.cell 0 rfl
      have q1 := Kh.out.cell 0 rfl
      have q2 := Kh.out.cell 1 rfl
      go_wp2_with fail
      refine (C1.out wo VT.out).mono ?_
      rintro e1 w4 ⟨rfl, hb⟩
      replace HB0 := Lib.hid (HB0.out.trans (hb.mono HB0.out.size))
      replace VT := Lib.hid (VT.out.bel hb)
      replace KB := Lib.hid (KB.out.bel hb)
      replace Kh := Lib.hid (Kh.out.bel hb)
      clear hb q0 q1 q2
      have q0 := KB.out.cell 0 rfl
      have q1 := Kh.out.cell 0 rfl
      have q2 := Kh.out.cell 1 rfl
      go_wp2_with fail
      refine (C2.out w4 VT.out).mono ?_
      rintro e1 w5 ⟨rfl, hb⟩
      replace HB0 := Lib.hid (HB0.out.trans (hb.mono HB0.out.size))
      clear hb q0 q1 q2 C1 C2
      go_wp2_with fail
      go_ret
      exact ⟨rfl, HB0.out⟩
end Go.Proofs.Ytpfpkghihpcbkaa
