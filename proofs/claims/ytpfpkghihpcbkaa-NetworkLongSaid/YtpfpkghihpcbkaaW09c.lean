/- The walk of theseuslaw09.NetworkLong. -/
import Derived.Test.YtpfpkghihpcbkaaL09
import Derived.Test.YtpfpkghihpcbkaaRef09
import Derived.Test.YtpfpkghihpcbkaaRef09f
import Derived.Deep.DeepCutAuto
namespace Go.Proofs.Ytpfpkghihpcbkaa
open Go.RowKit
set_option linter.unusedVariables false
set_option linter.unusedSimpArgs false

def longB (N : Nt) (a k : Nat) : Bool := (List.range k).any fun v => (itN N a N.length (v : Nat)).isSome
theorem longB_succ (N : Nt) (a k : Nat) : longB N a (k + 1) = (longB N a k || (itN N a N.length (k : Nat)).isSome) := by
  unfold longB
  rw [List.range_succ, List.any_append]
  simp
def inB (N : Nt) (a : Nat) (u : Int) (k : Nat) : Bool := (List.range k).any fun i => decide (itN N a (i + 1) u = some u)
theorem inB_succ (N : Nt) (a : Nat) (u : Int) (k : Nat) : inB N a u (k + 1) = (inB N a u k || decide (itN N a (k + 1) u = some u)) := by
  unfold inB
  rw [List.range_succ, List.any_append]
  simp
theorem inB_end {N : Nt} {a : Nat} (hin : InN N a N.length) {v : Nat} (hv : v < N.length) {u : Int} (h : itN N a N.length (v : Nat) = some u) : inB N a u N.length = true := by
  obtain ⟨k, k1, k2, k3⟩ := long_back hin (by omega) (by omega) h
  unfold inB
  rw [List.any_eq_true]
  exact ⟨k - 1, List.mem_range.2 (by omega), by rw [show k - 1 + 1 = k by omega, decide_eq_true_iff]; exact k3⟩
theorem longB_end {N : Nt} {a : Nat} (hin : InN N a N.length) : longB N a N.length = (lpN N a).isSome := by
  rcases lpN_or N a with ⟨h, hn⟩ | ⟨u, K, u1, k1, hf, h, _⟩
  · rw [h]
    rw [Bool.eq_iff_iff]
    constructor
    · intro g
      unfold longB at g
      rw [List.any_eq_true] at g
      obtain ⟨v, hv, g⟩ := g
      have hv := List.mem_range.1 hv
      obtain ⟨x, hx⟩ := Option.isSome_iff_exists.1 g
      obtain ⟨k, k1, k2, k3⟩ := long_back hin (by omega) (by omega) hx
      have hr := itN_in hin (by omega) (by omega) hx
      obtain ⟨t, ht⟩ := Int.eq_ofNat_of_zero_le hr.1
      subst ht
      exact absurd ⟨k, k1, k2, k3⟩ (hn t (by omega))
    · intro g; cases g
  · rw [h]
    rw [Bool.eq_iff_iff]
    constructor
    · intro _; rfl
    · intro _
      unfold longB
      rw [List.any_eq_true]
      obtain ⟨x, hx⟩ := ever hf.1 hf.2.1 N.length
      exact ⟨u, List.mem_range.2 u1, by rw [hx]; rfl⟩
set_option maxRecDepth 100000 in
set_option maxHeartbeats 8000000 in
theorem walkNetworkLong (a0 : Option Addr) (n0 c0 : Nat) (l0 : Nt) (a1 : Int) (w : World) (w0 : InNet w a0 n0 c0 l0) (w1 : (Lit.int .u32 a1).wf = true) :
    Calls Try.prog 8 #[.agg #[.slice a0 n0 c0], .int .u32 a1] w fun e w' => e = .returned (.bool true) ∧ Below w.heap.size w w' := by
  obtain ⟨hl1, hh1⟩ := bounds_u32 w1
  obtain ⟨a, rfl⟩ := Int.eq_ofNat_of_zero_le hl1
  have ha : (a : Int) ≤ 4294967295 := by omega
  clear w1 hl1 hh1
  have hwf := w0.wf
  have VR := Lib.hid w0.isn
  have FT := Lib.hid (fun v w hv => rfitN_any v l0 w hv hwf)
  have hT := fitNt_ok (N := l0)
  have hTw := fitNt_wf hwf
  have hTl := fitNt_le (N := l0)
  have hTn := fitNt_len l0
  have hTb := manyN_bd l0
  generalize fitNt l0 = T at *
  obtain ⟨NT, hNT⟩ : ∃ NT, T.length = NT := ⟨_, rfl⟩
  have HNT := Lib.hid hNT
  have hN1 : 1 ≤ (NT : Int) := by omega
  have hN8 : (NT : Int) ≤ 8 := by omega
  have hin := okN_in a hT
  rw [hNT] at hin
  have HIN := Lib.hid hin
  have HTW := Lib.hid hTw
  have HTL := Lib.hid hTl
  have HTT := Lib.hid hT
  clear hTn hTb hin w0 hT hTw hTl hwf
  have CW := Lib.hid (fun v w u k hv => nwalk_any v T a u k w hv ha HTW.out)
  have CL := Lib.hid (fun v w hv => nloop_any v T a w hv ha HTW.out (by rw [HNT.out]; omega))
  have hin2 := HIN.out
  rw [← hNT] at hin2
  have HLE := Lib.hid (longB_end hin2)
  have HIE := Lib.hid (fun v hv u h => inB_end (v := v) (u := u) hin2 hv h)
  have HLS := Lib.hid (longB_succ T a)
  have HIS := Lib.hid (inB_succ T a)
  rw [hNT] at HLE HIE HLS
  clear hNT hin2
  have HB0 := Lib.hid (Below.refl w.heap.size w)
  go_enter Try.func8, Try.ntmps8
  go_wp2_with fail
  obtain ⟨w1, hW⟩ : ∃ W, w.alloc (.cells #[.slice a0 n0 c0] 24) = W := ⟨_, rfl⟩
  obtain ⟨g, hG⟩ : ∃ G, w.heap.size = G := ⟨_, rfl⟩
  rw [hW, hG]
  have hb : Below w.heap.size w w1 := by subst hW; exact (Below.refl _ _).alloc (Nat.le_refl _) _
  have HB1 := Lib.hid (HB0.out.trans (hb.mono HB0.out.size))
  have Lg : Hid (w.heap.size ≤ g) := by subst hG; exact HB0.out.size
  replace VR := Lib.hid (VR.out.bel hb)
  have Kg : Hid (Blk g #[.slice a0 n0 c0] 24 w1) := by subst hW hG; exact Blk.new _ _ _
  clear hb hW hG HB0
  refine (shown9 w1).mono ?_
  rintro e1 w2 ⟨rfl, hb⟩
  have HB2 := Lib.hid (HB1.out.trans (hb.mono HB1.out.size))
  replace VR := Lib.hid (VR.out.bel hb)
  replace Kg := Lib.hid (Kg.out.bel hb)
  clear hb HB1
  have qg0 := Kg.out.cell 0 rfl
  go_wp2_with fail
  refine (FT.out _ w2 VR.out).mono ?_
  rintro e1 w3 ⟨tv, rfl, hown, hb⟩
  clear qg0
  have HB3 := Lib.hid (HB2.out.trans (hb.mono HB2.out.size))
  replace VR := Lib.hid (VR.out.bel hb)
  replace Kg := Lib.hid (Kg.out.bel hb)
  have VT := Lib.hid (hown)
  clear hb HB2
  clear hown FT
  clear VR
  obtain ⟨AT, cT, rfl, hTc, hTm, _⟩ := VT.out.slice
  rw [HNT.out] at hTc
  have hTc2 : (NT : Int) ≤ (cT : Int) := by omega
  simp only [HNT.out] at VT ⊢
  clear hTc hTm
  clear Kg
  go_upto_region 3 with fail
  obtain ⟨w4, hW⟩ : ∃ W, w3.alloc (.cells #[.slice AT NT cT] 24) = W := ⟨_, rfl⟩
  obtain ⟨B, hG⟩ : ∃ G, w3.heap.size = G := ⟨_, rfl⟩
  rw [hW, hG]
  have hb : Below w3.heap.size w3 w4 := by subst hW; exact (Below.refl _ _).alloc (Nat.le_refl _) _
  have HB4 := Lib.hid (HB3.out.trans (hb.mono HB3.out.size))
  have LB : Hid (w.heap.size ≤ B) := by subst hG; exact HB3.out.size
  replace VT := Lib.hid (VT.out.bel hb)
  have KB : Hid (Blk B #[.slice AT NT cT] 24 w4) := by subst hW hG; exact Blk.new _ _ _
  clear hb hW hG HB3
  have qB0 := KB.out.cell 0 rfl
  go_wp2_with fail
  refine (CL.out _ w4 VT.out).mono ?_
  rintro e1 w5 ⟨lv, rfl, hl, hb⟩
  clear qB0
  have HB5 := Lib.hid (HB4.out.trans (hb.mono HB4.out.size))
  replace VT := Lib.hid (VT.out.bel hb)
  replace KB := Lib.hid (KB.out.bel hb)
  have VL := Lib.hid (hl)
  clear hb HB4
  clear hl CL
  obtain ⟨AL, nL, cL, rfl, hn1, hn2, hLL, _⟩ := VL.out
  have HLL := Lib.hid hLL
  have hnL : (nL : Int) ≤ 9223372036854775807 := by unfold maxLen at hn2; omega
  clear hLL hn1 hn2
  clear VL
  go_wp2_with fail
  go_loopw [9, 10] (fun x i wr => ∃ k : Nat, k ≤ NT ∧ i = .int .i64 k ∧ x = .bool (longB T a k) ∧ Hid (IsN wr (.agg #[.slice AT NT cT]) T) ∧ Hid (Blk B #[.slice AT NT cT] 24 wr) ∧ Hid (Below w.heap.size w wr)) (fun _ i _ => NT - (intOf i).toNat)
  case atStart => exact ⟨0, by omega, rfl, rfl, VT, KB, HB5⟩
  case round =>
    clear VT KB HB5
    obtain ⟨k, hk, rfl, rfl, VT, KB, HB0⟩ := hrel
    generalize wr = wo at *
    by_cases hlt : k < NT
    · have hki : (k : Int) < (NT : Int) := by omega
      have hkz : (0 : Int) ≤ (k : Int) := by omega
      have e1 : wkN T a k (NT : Int) = itN T a NT k := wkN_ok (by omega) (by omega) hkz (by rw [HNT.out]; exact hki)
      have C1 := Lib.hid (fun v w hv => CW.out v w (k : Int) (NT : Int) hv)
      rw [e1] at C1
      have HL1 := Lib.hid (HLS.out k)
      have HE1 := Lib.hid (HIE.out k hlt)
      clear e1
      cases ho : itN T a NT (k : Nat) with
      | none =>
        rw [ho, resO_none] at C1
        rw [ho] at HL1
        have HL2 : Hid (longB T a (k + 1) = longB T a k) := by show _ = _; rw [HL1.out]; simp
        clear ho HL1 HE1
        generalize longB T a k = b at *
        have q0 := KB.out.cell 0 rfl
        cases b <;>
        · go_wp2_with fail
          refine (C1.out _ wo VT.out).mono ?_
          rintro e1 w2 ⟨rfl, hb⟩
          have HB2 := Lib.hid (HB0.out.trans (hb.mono HB0.out.size))
          replace VT := Lib.hid (VT.out.bel hb)
          replace KB := Lib.hid (KB.out.bel hb)
          clear hb HB0 q0
          go_wp2_with fail
          go_roundw
          case rel => exact ⟨k + 1, by omega, by go_num, by rw [HL2.out], VT, KB, HB2⟩
          case measure => simp [intOf]; omega
      | some u =>
        have HE2 := Lib.hid (HE1.out u ho)
        have hu := itN_in HIN.out hkz hki ho
        have hu2 : u < T.length := by rw [HNT.out]; exact hu.2
        have hu3 := hu.1
        rw [ho, resO_some] at C1
        rw [ho] at HL1
        have HL2 : Hid (longB T a (k + 1) = true) := by show _ = _; rw [HL1.out]; simp
        have CU : Hid (∀ (j : Nat), j < NT → ∀ v w, IsN w v T → Calls Try.prog 21 #[v, .int .u32 (a : Int), .int .i64 u, .int .i64 ((j + 1 : Nat) : Int)] w fun e w' => e = .returned (.tuple #[.int .i64 (resO (itN T a (j + 1) u)).1, .bool (resO (itN T a (j + 1) u)).2]) ∧ Below w.heap.size w w') := fun j hj v w hv => by
          have h := CW.out v w u ((j + 1 : Nat) : Int) hv
          rw [wkN_ok (by omega) (by omega) hu3 hu2] at h
          exact h
        clear ho HL1 HE1 hu hu2
        have q0 := KB.out.cell 0 rfl
        have HIS2 := Lib.hid (HIS.out u)
        generalize longB T a k = b at *
        have HTRUE : Hid ((b || true) = true) := by show _ = _; simp
        cases b <;>
        · go_wp2_with fail
          refine (C1.out _ wo VT.out).mono ?_
          rintro e1 w2 ⟨rfl, hb⟩
          have HB2 := Lib.hid (HB0.out.trans (hb.mono HB0.out.size))
          replace VT := Lib.hid (VT.out.bel hb)
          replace KB := Lib.hid (KB.out.bel hb)
          clear hb HB0 q0 C1
          go_wp2_with fail
          go_loopw [13, 14] (fun x i wr => ∃ j : Nat, j ≤ NT ∧ i = .int .i64 j ∧ x = .bool (inB T a u j) ∧ Hid (IsN wr (.agg #[.slice AT NT cT]) T) ∧ Hid (Blk B #[.slice AT NT cT] 24 wr) ∧ Hid (Below w.heap.size w wr)) (fun _ i _ => NT - (intOf i).toNat)
          case atStart => exact ⟨0, by omega, rfl, rfl, VT, KB, HB2⟩
          case round =>
            clear VT KB HB2
            obtain ⟨j, hj, rfl, rfl, VT, KB, HB3⟩ := hrel
            have q0 := KB.out.cell 0 rfl
            by_cases hjl : j < NT
            · have hji : (j : Int) < (NT : Int) := by omega
              have hj1 : IntKind.i64.wrap ((j : Int) + 1) = ((j + 1 : Nat) : Int) := by rw [IntKind.wrap_i64]; omega
              have C2 := Lib.hid (CU.out j hjl)
              have HI := Lib.hid (HIS2.out j)
              generalize itN T a (j + 1) u = o at *
              have HOR : Hid (∃ t0 : Bool, decide (o = some u) = t0 ∧ (((resO o).2 = false ∧ t0 = false) ∨ ((resO o).2 = true ∧ ((resO o).1 == u) = t0))) := by
                cases o with
                | none => exact ⟨false, by simp, .inl ⟨rfl, rfl⟩⟩
                | some t => exact ⟨decide (t = u), by simp, .inr ⟨rfl, by rw [Bool.eq_iff_iff]; simp [resO]⟩⟩
              obtain ⟨t0, ht0, hcase⟩ := HOR.out
              rw [ht0] at HI
              clear HOR ht0
              generalize (resO o).1 = x1 at *
              generalize (resO o).2 = x2 at *
              generalize inB T a u j = bi at *
              rcases hcase with ⟨rfl, rfl⟩ | ⟨rfl, ht⟩
              · have HI2 : Hid (inB T a u (j + 1) = bi) := by show _ = _; rw [HI.out]; simp
                clear HI
                cases bi <;>
                · go_wp2_with fail
                  refine (C2.out _ wr VT.out).mono ?_
                  rintro e1 w4 ⟨rfl, hb⟩
                  have HB4 := Lib.hid (HB3.out.trans (hb.mono HB3.out.size))
                  replace VT := Lib.hid (VT.out.bel hb)
                  replace KB := Lib.hid (KB.out.bel hb)
                  clear hb HB3 q0 C2
                  go_wp2_with fail
                  go_roundw
                  case rel => exact ⟨j + 1, by omega, by go_num, by rw [HI2.out], VT, KB, HB4⟩
                  case measure => simp [intOf]; omega
              · cases bi <;> cases t0 <;>
                · go_wp2_with fail
                  refine (C2.out _ wr VT.out).mono ?_
                  rintro e1 w4 ⟨rfl, hb⟩
                  have HB4 := Lib.hid (HB3.out.trans (hb.mono HB3.out.size))
                  replace VT := Lib.hid (VT.out.bel hb)
                  replace KB := Lib.hid (KB.out.bel hb)
                  clear hb HB3 q0 C2
                  go_wp2_with fail
                  go_roundw
                  case rel => exact ⟨j + 1, by omega, by go_num, by rw [HI.out]; rfl, VT, KB, HB4⟩
                  case measure => simp [intOf]; omega
            · obtain rfl : j = NT := by omega
              rw [HE2.out]
              go_wp2_with fail
              go_roundw
              case rel => exact ⟨k + 1, by omega, by go_num, by rw [HL2.out], VT, KB, HB3⟩
              case measure => simp [intOf]; omega
    · obtain rfl : k = NT := by omega
      rw [HLE.out]
      have q0 := KB.out.cell 0 rfl
      cases ho : lpN T a with
      | none =>
        rw [ho] at HLL
        have hz : nL = 0 := HLL.out.symm
        subst hz
        clear ho HLL HLE
        go_wp2_with fail
        go_ret
        exact ⟨rfl, HB0.out⟩
      | some l =>
        clear ho HLL HLE
        go_wp2_with fail
        go_ret
        exact ⟨rfl, HB0.out⟩
end Go.Proofs.Ytpfpkghihpcbkaa
