/- The walk of theseuslaw09.NetworkWalks. -/
import Derived.Test.YtpfpkghihpcbkaaL09
import Derived.Test.YtpfpkghihpcbkaaRef09
import Derived.Test.YtpfpkghihpcbkaaRef09f
import Derived.Test.YtpfpkghihpcbkaaTbl
import Derived.Deep.DeepCutAuto
namespace Go.Proofs.Ytpfpkghihpcbkaa
open Go.RowKit
set_option linter.unusedVariables false
set_option linter.unusedSimpArgs false

theorem IsN.isS {w : World} {s : Value} {N : Nt} (h : IsN w (.agg #[s]) N) : IsS w s N := by
  obtain ⟨s', e, h1⟩ := h
  injection e with e
  simp at e
  subst e
  exact h1
theorem walks_none {N : Nt} {a I J : Nat} {v : Int} (h : itN N a I v = none) : itN N a (I + J) v = none := by rw [itN_add, h]; rfl
theorem walks_some {N : Nt} {a I J : Nat} {v y : Int} (h : itN N a I v = some y) : itN N a (I + J) v = itN N a J y := by rw [itN_add, h]; rfl
set_option maxRecDepth 100000 in
set_option maxHeartbeats 8000000 in
theorem walkNetworkWalks (a0 : Option Addr) (n0 c0 : Nat) (l0 : Nt) (a1 : Int) (l2 : List Int) (w : World) (w0 : InNet w a0 n0 c0 l0) (w1 : (Lit.int .u32 a1).wf = true) (w2 : l2.length = 3 ∧ ∀ x ∈ l2, (Lit.int .u8 x).wf = true) :
    Calls Try.prog 4 #[.agg #[.slice a0 n0 c0], .int .u32 a1, .agg (l2.map (Value.int .u8)).toArray] w fun e w' => e = .returned (.bool true) ∧ Below w.heap.size w w' := by
  obtain ⟨hl1, hh1⟩ := bounds_u32 w1
  obtain ⟨a, rfl⟩ := Int.eq_ofNat_of_zero_le hl1
  have ha : (a : Int) ≤ 4294967295 := by omega
  clear w1 hl1 hh1
  obtain ⟨x0, x1, x2, rfl⟩ : ∃ x0 x1 x2, l2 = [x0, x1, x2] := by
    match l2, w2.1 with
    | [x0, x1, x2], _ => exact ⟨x0, x1, x2, rfl⟩
  obtain ⟨hl0, hh0⟩ := bounds_u8 (w2.2 x0 (by simp))
  obtain ⟨p, rfl⟩ := Int.eq_ofNat_of_zero_le hl0
  have hp : (p : Int) ≤ 255 := by omega
  clear hl0 hh0
  obtain ⟨hl1, hh1⟩ := bounds_u8 (w2.2 x1 (by simp))
  obtain ⟨q, rfl⟩ := Int.eq_ofNat_of_zero_le hl1
  have hq : (q : Int) ≤ 255 := by omega
  clear hl1 hh1
  obtain ⟨hl2, hh2⟩ := bounds_u8 (w2.2 x2 (by simp))
  obtain ⟨r, rfl⟩ := Int.eq_ofNat_of_zero_le hl2
  have hr : (r : Int) ≤ 255 := by omega
  clear hl2 hh2
  clear w2
  have hwf := w0.wf
  have VR := Lib.hid w0.isn
  have FT := Lib.hid (fun v w hv => rfitN_any v l0 w hv hwf)
  have hT := fitNt_ok (N := l0)
  have hTw := fitNt_wf hwf
  have hTl := fitNt_le (N := l0)
  have hTn := fitNt_len l0
  have hTb := manyN_bd l0
  generalize fitNt l0 = T at *
  obtain ⟨NT, hNT⟩ : ∃ NT, T.length = NT := ⟨_, rfl⟩
  have HNT := Lib.hid hNT
  have hN1 : 1 ≤ (NT : Int) := by omega
  have hN8 : (NT : Int) ≤ 8 := by omega
  have hin := okN_in a hT
  rw [hNT] at hin
  have HIN := Lib.hid hin
  have HTW := Lib.hid hTw
  have HTL := Lib.hid hTl
  have HTT := Lib.hid hT
  clear hTn hTb hin w0 hT hTw hTl hwf
  obtain ⟨K, hK⟩ : ∃ K, p % NT = K := ⟨_, rfl⟩
  have hKN : K < NT := by rw [← hK]; exact Nat.mod_lt _ (by omega)
  have hKM : (p : Int) % (NT : Int) = (K : Int) := by omega
  obtain ⟨I, hI⟩ : ∃ I, q % 16 = I := ⟨_, rfl⟩
  have hI16 : (I : Int) ≤ 15 := by omega
  have hIM : (q : Int) % 16 = (I : Int) := by omega
  obtain ⟨J, hJ⟩ : ∃ J, r % 16 = J := ⟨_, rfl⟩
  have hJ16 : (J : Int) ≤ 15 := by omega
  have hJM : (r : Int) % 16 = (J : Int) := by omega
  have hIJ : IntKind.i64.wrap ((I : Int) + (J : Int)) = ((I + J : Nat) : Int) := by rw [IntKind.wrap_i64]; omega
  have hz : ((NT : Int) == 0) = false := by rw [beq_eq_false_iff_ne]; omega
  have hKl : K < T.length := by rw [HNT.out]; exact hKN
  have hKl2 : (K : Int) < T.length := by omega
  have hKki : (K : Int) < (NT : Int) := by omega
  have hKz : (0 : Int) ≤ (K : Int) := by omega
  have CW := Lib.hid (fun v w u k hv => nwalk_any v T a u k w hv ha HTW.out)
  have CS := Lib.hid (fun v w u hv => nstep_any v T a u w hv ha HTW.out)
  have CX := Lib.hid (fun v w (hv : IsR w v (T[K]'hKl)) => tnext_any v (T[K]'hKl) a w hv ha (HTW.out.at_ hKl))
  have e1 : wkN T a K I = itN T a I K := wkN_ok (by omega) (by omega) hKz hKl2
  have e3 : wkN T a K ((I + J : Nat) : Int) = itN T a (I + J) K := wkN_ok (by omega) (by omega) hKz hKl2
  have e4 : wkN T a K 1 = stN T a K := (wkN_ok (by omega) (by omega) hKz hKl2).trans (itN_one T a K)
  have e5 : wkN T a K 0 = some (K : Int) := wkN_ok (by omega) (by omega) hKz hKl2
  have e6 := resO_st T a K hKl
  have HE1 := Lib.hid e1
  have HE3 := Lib.hid e3
  have C4 : Hid (∀ v w, IsN w v T → Calls Try.prog 21 #[v, .int .u32 (a : Int), .int .i64 (K : Int), .int .i64 1] w fun e w' => e = .returned (.tuple #[.int .i64 (resO (stN T a K)).1, .bool (resO (stN T a K)).2]) ∧ Below w.heap.size w w') := fun v w hv => by
    have h := CW.out v w K 1 hv
    rw [e4] at h
    exact h
  have C5 : Hid (∀ v w, IsN w v T → Calls Try.prog 21 #[v, .int .u32 (a : Int), .int .i64 (K : Int), .int .i64 0] w fun e w' => e = .returned (.tuple #[.int .i64 (K : Int), .bool true]) ∧ Below w.heap.size w w') := fun v w hv => by
    have h := CW.out v w K 0 hv
    rw [e5] at h
    exact h
  rw [← e6] at CX
  have CSK : Hid (∀ v w, IsN w v T → Calls Try.prog 19 #[v, .int .u32 (a : Int), .int .i64 (K : Int)] w fun e w' => e = .returned (.tuple #[.int .i64 (resO (stN T a K)).1, .bool (resO (stN T a K)).2]) ∧ Below w.heap.size w w') := fun v w hv => CS.out v w K hv
  obtain ⟨so, hso⟩ : ∃ o, resO (stN T a K) = o := ⟨_, rfl⟩
  rw [hso] at C4 CX CSK
  obtain ⟨s1, s2⟩ := so
  have t0 : (s1 == s1) = true := by simp
  have t1 : (s2 == s2) = true := by simp
  have t2 : ((K : Int) == (K : Int)) = true := by simp
  clear e1 e3 e4 e5 e6 hso CS hK hI hJ hNT
  have HB0 := Lib.hid (Below.refl w.heap.size w)
  go_enter Try.func4, Try.ntmps4
  go_wp2_with fail
  obtain ⟨w1, hW⟩ : ∃ W, (w.alloc (.cells #[.slice a0 n0 c0] 24)).alloc (.cells #[.int .u8 (p : Int), .int .u8 (q : Int), .int .u8 (r : Int)] 40) = W := ⟨_, rfl⟩
  obtain ⟨g, hG⟩ : ∃ G, w.heap.size = G := ⟨_, rfl⟩
  obtain ⟨h, hH⟩ : ∃ H, g + 1 = H := ⟨_, rfl⟩
  rw [hW, hG, hH]
  have hb : Below w.heap.size w w1 := by subst hW; exact ((Below.refl _ _).alloc (Nat.le_refl _) _).alloc (by simp only [World.size_alloc]; omega) _
  have HB1 := Lib.hid (HB0.out.trans (hb.mono HB0.out.size))
  have Lg : Hid (w.heap.size ≤ g) := by subst hG; exact HB0.out.size
  have Lh : Hid (w.heap.size ≤ h) := by subst hG hH; show _ ≤ _; have := HB0.out.size; omega
  replace VR := Lib.hid (VR.out.bel hb)
  have Kg : Hid (Blk g #[.slice a0 n0 c0] 24 w1) := by subst hW hG; exact (Blk.new _ _ _).bel ((Below.refl _ _).alloc (Nat.le_refl _) _)
  have Kh : Hid (Blk h #[.int .u8 (p : Int), .int .u8 (q : Int), .int .u8 (r : Int)] 40 w1) := by
    subst hW hG hH
    have h := Blk.new (w.alloc (.cells #[.slice a0 n0 c0] 24)) #[.int .u8 (p : Int), .int .u8 (q : Int), .int .u8 (r : Int)] 40
    rw [World.size_alloc] at h
    exact h
  clear hb hW hG hH HB0
  refine (shown9 w1).mono ?_
  rintro e1 w2 ⟨rfl, hb⟩
  have HB2 := Lib.hid (HB1.out.trans (hb.mono HB1.out.size))
  replace VR := Lib.hid (VR.out.bel hb)
  replace Kg := Lib.hid (Kg.out.bel hb)
  replace Kh := Lib.hid (Kh.out.bel hb)
  clear hb HB1
  have qg0 := Kg.out.cell 0 rfl
  go_wp2_with fail
  refine (FT.out _ w2 VR.out).mono ?_
  rintro e1 w3 ⟨tv, rfl, hown, hb⟩
  clear qg0
  have HB3 := Lib.hid (HB2.out.trans (hb.mono HB2.out.size))
  replace VR := Lib.hid (VR.out.bel hb)
  replace Kg := Lib.hid (Kg.out.bel hb)
  replace Kh := Lib.hid (Kh.out.bel hb)
  have VT := Lib.hid (hown)
  clear hb HB2
  clear hown FT
  clear VR
  obtain ⟨AT, cT, rfl, hTc, hTm, _⟩ := VT.out.slice
  rw [HNT.out] at hTc
  have hTc2 : (NT : Int) ≤ (cT : Int) := by omega
  simp only [HNT.out] at VT ⊢
  clear hTc hTm
  clear Kg
  go_upto_region 3 with fail
  obtain ⟨w4, hW⟩ : ∃ W, w3.alloc (.cells #[.slice AT NT cT] 24) = W := ⟨_, rfl⟩
  obtain ⟨B, hG⟩ : ∃ G, w3.heap.size = G := ⟨_, rfl⟩
  rw [hW, hG]
  have hb : Below w3.heap.size w3 w4 := by subst hW; exact (Below.refl _ _).alloc (Nat.le_refl _) _
  have HB4 := Lib.hid (HB3.out.trans (hb.mono HB3.out.size))
  have LB : Hid (w.heap.size ≤ B) := by subst hG; exact HB3.out.size
  have NhB : Hid (h < B) := by subst hG; exact Kh.out.size
  replace Kh := Lib.hid (Kh.out.bel hb)
  replace VT := Lib.hid (VT.out.bel hb)
  have KB : Hid (Blk B #[.slice AT NT cT] 24 w4) := by subst hW hG; exact Blk.new _ _ _
  clear hb hW hG HB3
  have qB0 := KB.out.cell 0 rfl
  have qh0 := Kh.out.cell 0 rfl
  have qh1 := Kh.out.cell 1 rfl
  have qh2 := Kh.out.cell 2 rfl
  go_upto_region 6 with fail
  clear qB0 qh0 qh1 qh2
  try rw [hKM]
  cases h1 : itN T a I K with
  | none =>
    have C1 : Hid (∀ v w, IsN w v T → Calls Try.prog 21 #[v, .int .u32 (a : Int), .int .i64 (K : Int), .int .i64 (I : Int)] w fun e w' => e = .returned (.tuple #[.int .i64 0, .bool false]) ∧ Below w.heap.size w w') := fun v w hv => by
      have h := CW.out v w (K : Int) (I : Int) hv
      rw [HE1.out, h1] at h
      exact h
    have C3 : Hid (∀ v w, IsN w v T → Calls Try.prog 21 #[v, .int .u32 (a : Int), .int .i64 (K : Int), .int .i64 ((I + J : Nat) : Int)] w fun e w' => e = .returned (.tuple #[.int .i64 0, .bool false]) ∧ Below w.heap.size w w') := fun v w hv => by
      have h := CW.out v w (K : Int) ((I + J : Nat) : Int) hv
      rw [HE3.out, walks_none h1] at h
      exact h
    obtain ⟨oo, hoo⟩ : ∃ o, resO (wkN T a 0 J) = o := ⟨_, rfl⟩
    obtain ⟨x1, x2⟩ := oo
    have C2 : Hid (∀ v w, IsN w v T → Calls Try.prog 21 #[v, .int .u32 (a : Int), .int .i64 0, .int .i64 (J : Int)] w fun e w' => e = .returned (.tuple #[.int .i64 x1, .bool x2]) ∧ Below w.heap.size w w') := fun v w hv => by
      have h := CW.out v w 0 (J : Int) hv
      rw [hoo] at h
      exact h
    clear hoo h1 HE1 HE3 CW
    have qB0 := KB.out.cell 0 rfl
    go_wp2_with fail
    refine (C1.out _ w4 VT.out).mono ?_
    rintro e1 w5 ⟨rfl, hb⟩
    clear qB0
    have HB5 := Lib.hid (HB4.out.trans (hb.mono HB4.out.size))
    replace Kh := Lib.hid (Kh.out.bel hb)
    replace VT := Lib.hid (VT.out.bel hb)
    replace KB := Lib.hid (KB.out.bel hb)
    clear hb HB4
    have qB0 := KB.out.cell 0 rfl
    go_wp2_with fail
    refine (C2.out _ w5 VT.out).mono ?_
    rintro e1 w6 ⟨rfl, hb⟩
    clear qB0
    have HB6 := Lib.hid (HB5.out.trans (hb.mono HB5.out.size))
    replace Kh := Lib.hid (Kh.out.bel hb)
    replace VT := Lib.hid (VT.out.bel hb)
    replace KB := Lib.hid (KB.out.bel hb)
    clear hb HB5
    have qB0 := KB.out.cell 0 rfl
    go_wp2_with fail
    refine (C3.out _ w6 VT.out).mono ?_
    rintro e1 w7 ⟨rfl, hb⟩
    clear qB0
    have HB7 := Lib.hid (HB6.out.trans (hb.mono HB6.out.size))
    replace Kh := Lib.hid (Kh.out.bel hb)
    replace VT := Lib.hid (VT.out.bel hb)
    replace KB := Lib.hid (KB.out.bel hb)
    clear hb HB6
    have qB0 := KB.out.cell 0 rfl
    go_wp2_with fail
    refine (C4.out _ w7 VT.out).mono ?_
    rintro e1 w8 ⟨rfl, hb⟩
    clear qB0
    have HB8 := Lib.hid (HB7.out.trans (hb.mono HB7.out.size))
    replace Kh := Lib.hid (Kh.out.bel hb)
    replace VT := Lib.hid (VT.out.bel hb)
    replace KB := Lib.hid (KB.out.bel hb)
    clear hb HB7
    have qB0 := KB.out.cell 0 rfl
    go_wp2_with fail
    refine (CSK.out _ w8 VT.out).mono ?_
    rintro e1 w9 ⟨rfl, hb⟩
    clear qB0
    have HB9 := Lib.hid (HB8.out.trans (hb.mono HB8.out.size))
    replace Kh := Lib.hid (Kh.out.bel hb)
    replace VT := Lib.hid (VT.out.bel hb)
    replace KB := Lib.hid (KB.out.bel hb)
    clear hb HB8
    have qB0 := KB.out.cell 0 rfl
    go_wp2_with fail
    refine (C5.out _ w9 VT.out).mono ?_
    rintro e1 w10 ⟨rfl, hb⟩
    clear qB0
    have HB10 := Lib.hid (HB9.out.trans (hb.mono HB9.out.size))
    replace Kh := Lib.hid (Kh.out.bel hb)
    replace VT := Lib.hid (VT.out.bel hb)
    replace KB := Lib.hid (KB.out.bel hb)
    clear hb HB9
    have qB0 := KB.out.cell 0 rfl
    obtain ⟨ad, BT, mT, had, _, _, hrk, hallk⟩ := VT.out.isS.all K hKl
    subst had
    have hck := hallk w10 (Below.refl _ _)
    clear hallk
    go_wp2_with fail
    refine (CX.out _ w10 hrk).mono ?_
    rintro e1 w11 ⟨rfl, hb⟩
    clear qB0
    have HB11 := Lib.hid (HB10.out.trans (hb.mono HB10.out.size))
    replace Kh := Lib.hid (Kh.out.bel hb)
    replace VT := Lib.hid (VT.out.bel hb)
    replace KB := Lib.hid (KB.out.bel hb)
    clear hb HB10
    go_wp2_with fail
    go_ret
    exact ⟨rfl, HB11.out⟩
  | some y =>
    have C1 : Hid (∀ v w, IsN w v T → Calls Try.prog 21 #[v, .int .u32 (a : Int), .int .i64 (K : Int), .int .i64 (I : Int)] w fun e w' => e = .returned (.tuple #[.int .i64 y, .bool true]) ∧ Below w.heap.size w w') := fun v w hv => by
      have h := CW.out v w (K : Int) (I : Int) hv
      rw [HE1.out, h1] at h
      exact h
    have hy := itN_in HIN.out hKz hKki h1
    have e2 : wkN T a y J = itN T a J y := wkN_ok (by omega) (by omega) hy.1 (by rw [HNT.out]; exact hy.2)
    have h3 := walks_some (J := J) h1
    cases h2 : itN T a J y with
    | none =>
      have C2 : Hid (∀ v w, IsN w v T → Calls Try.prog 21 #[v, .int .u32 (a : Int), .int .i64 y, .int .i64 (J : Int)] w fun e w' => e = .returned (.tuple #[.int .i64 0, .bool false]) ∧ Below w.heap.size w w') := fun v w hv => by
        have h := CW.out v w y (J : Int) hv
        rw [e2, h2] at h
        exact h
      have C3 : Hid (∀ v w, IsN w v T → Calls Try.prog 21 #[v, .int .u32 (a : Int), .int .i64 (K : Int), .int .i64 ((I + J : Nat) : Int)] w fun e w' => e = .returned (.tuple #[.int .i64 0, .bool false]) ∧ Below w.heap.size w w') := fun v w hv => by
        have h := CW.out v w (K : Int) ((I + J : Nat) : Int) hv
        rw [HE3.out, h3, h2] at h
        exact h
      clear h1 h2 h3 e2 hy HE1 HE3 CW
      have qB0 := KB.out.cell 0 rfl
      go_wp2_with fail
      refine (C1.out _ w4 VT.out).mono ?_
      rintro e1 w5 ⟨rfl, hb⟩
      clear qB0
      have HB5 := Lib.hid (HB4.out.trans (hb.mono HB4.out.size))
      replace Kh := Lib.hid (Kh.out.bel hb)
      replace VT := Lib.hid (VT.out.bel hb)
      replace KB := Lib.hid (KB.out.bel hb)
      clear hb HB4
      have qB0 := KB.out.cell 0 rfl
      go_wp2_with fail
      refine (C2.out _ w5 VT.out).mono ?_
      rintro e1 w6 ⟨rfl, hb⟩
      clear qB0
      have HB6 := Lib.hid (HB5.out.trans (hb.mono HB5.out.size))
      replace Kh := Lib.hid (Kh.out.bel hb)
      replace VT := Lib.hid (VT.out.bel hb)
      replace KB := Lib.hid (KB.out.bel hb)
      clear hb HB5
      have qB0 := KB.out.cell 0 rfl
      go_wp2_with fail
      refine (C3.out _ w6 VT.out).mono ?_
      rintro e1 w7 ⟨rfl, hb⟩
      clear qB0
      have HB7 := Lib.hid (HB6.out.trans (hb.mono HB6.out.size))
      replace Kh := Lib.hid (Kh.out.bel hb)
      replace VT := Lib.hid (VT.out.bel hb)
      replace KB := Lib.hid (KB.out.bel hb)
      clear hb HB6
      have qB0 := KB.out.cell 0 rfl
      go_wp2_with fail
      refine (C4.out _ w7 VT.out).mono ?_
      rintro e1 w8 ⟨rfl, hb⟩
      clear qB0
      have HB8 := Lib.hid (HB7.out.trans (hb.mono HB7.out.size))
      replace Kh := Lib.hid (Kh.out.bel hb)
      replace VT := Lib.hid (VT.out.bel hb)
      replace KB := Lib.hid (KB.out.bel hb)
      clear hb HB7
      have qB0 := KB.out.cell 0 rfl
      go_wp2_with fail
      refine (CSK.out _ w8 VT.out).mono ?_
      rintro e1 w9 ⟨rfl, hb⟩
      clear qB0
      have HB9 := Lib.hid (HB8.out.trans (hb.mono HB8.out.size))
      replace Kh := Lib.hid (Kh.out.bel hb)
      replace VT := Lib.hid (VT.out.bel hb)
      replace KB := Lib.hid (KB.out.bel hb)
      clear hb HB8
      have qB0 := KB.out.cell 0 rfl
      go_wp2_with fail
      refine (C5.out _ w9 VT.out).mono ?_
      rintro e1 w10 ⟨rfl, hb⟩
      clear qB0
      have HB10 := Lib.hid (HB9.out.trans (hb.mono HB9.out.size))
      replace Kh := Lib.hid (Kh.out.bel hb)
      replace VT := Lib.hid (VT.out.bel hb)
      replace KB := Lib.hid (KB.out.bel hb)
      clear hb HB9
      have qB0 := KB.out.cell 0 rfl
      obtain ⟨ad, BT, mT, had, _, _, hrk, hallk⟩ := VT.out.isS.all K hKl
      subst had
      have hck := hallk w10 (Below.refl _ _)
      clear hallk
      go_wp2_with fail
      refine (CX.out _ w10 hrk).mono ?_
      rintro e1 w11 ⟨rfl, hb⟩
      clear qB0
      have HB11 := Lib.hid (HB10.out.trans (hb.mono HB10.out.size))
      replace Kh := Lib.hid (Kh.out.bel hb)
      replace VT := Lib.hid (VT.out.bel hb)
      replace KB := Lib.hid (KB.out.bel hb)
      clear hb HB10
      go_wp2_with fail
      go_ret
      exact ⟨rfl, HB11.out⟩
    | some z =>
      have C2 : Hid (∀ v w, IsN w v T → Calls Try.prog 21 #[v, .int .u32 (a : Int), .int .i64 y, .int .i64 (J : Int)] w fun e w' => e = .returned (.tuple #[.int .i64 z, .bool true]) ∧ Below w.heap.size w w') := fun v w hv => by
        have h := CW.out v w y (J : Int) hv
        rw [e2, h2] at h
        exact h
      have C3 : Hid (∀ v w, IsN w v T → Calls Try.prog 21 #[v, .int .u32 (a : Int), .int .i64 (K : Int), .int .i64 ((I + J : Nat) : Int)] w fun e w' => e = .returned (.tuple #[.int .i64 z, .bool true]) ∧ Below w.heap.size w w') := fun v w hv => by
        have h := CW.out v w (K : Int) ((I + J : Nat) : Int) hv
        rw [HE3.out, h3, h2] at h
        exact h
      have tz : (z == z) = true := by simp
      clear h1 h2 h3 e2 hy HE1 HE3 CW
      have qB0 := KB.out.cell 0 rfl
      go_wp2_with fail
      refine (C1.out _ w4 VT.out).mono ?_
      rintro e1 w5 ⟨rfl, hb⟩
      clear qB0
      have HB5 := Lib.hid (HB4.out.trans (hb.mono HB4.out.size))
      replace Kh := Lib.hid (Kh.out.bel hb)
      replace VT := Lib.hid (VT.out.bel hb)
      replace KB := Lib.hid (KB.out.bel hb)
      clear hb HB4
      have qB0 := KB.out.cell 0 rfl
      go_wp2_with fail
      refine (C2.out _ w5 VT.out).mono ?_
      rintro e1 w6 ⟨rfl, hb⟩
      clear qB0
      have HB6 := Lib.hid (HB5.out.trans (hb.mono HB5.out.size))
      replace Kh := Lib.hid (Kh.out.bel hb)
      replace VT := Lib.hid (VT.out.bel hb)
      replace KB := Lib.hid (KB.out.bel hb)
      clear hb HB5
      have qB0 := KB.out.cell 0 rfl
      go_wp2_with fail
      refine (C3.out _ w6 VT.out).mono ?_
      rintro e1 w7 ⟨rfl, hb⟩
      clear qB0
      have HB7 := Lib.hid (HB6.out.trans (hb.mono HB6.out.size))
      replace Kh := Lib.hid (Kh.out.bel hb)
      replace VT := Lib.hid (VT.out.bel hb)
      replace KB := Lib.hid (KB.out.bel hb)
      clear hb HB6
      have qB0 := KB.out.cell 0 rfl
      go_wp2_with fail
      refine (C4.out _ w7 VT.out).mono ?_
      rintro e1 w8 ⟨rfl, hb⟩
      clear qB0
      have HB8 := Lib.hid (HB7.out.trans (hb.mono HB7.out.size))
      replace Kh := Lib.hid (Kh.out.bel hb)
      replace VT := Lib.hid (VT.out.bel hb)
      replace KB := Lib.hid (KB.out.bel hb)
      clear hb HB7
      have qB0 := KB.out.cell 0 rfl
      go_wp2_with fail
      refine (CSK.out _ w8 VT.out).mono ?_
      rintro e1 w9 ⟨rfl, hb⟩
      clear qB0
      have HB9 := Lib.hid (HB8.out.trans (hb.mono HB8.out.size))
      replace Kh := Lib.hid (Kh.out.bel hb)
      replace VT := Lib.hid (VT.out.bel hb)
      replace KB := Lib.hid (KB.out.bel hb)
      clear hb HB8
      have qB0 := KB.out.cell 0 rfl
      go_wp2_with fail
      refine (C5.out _ w9 VT.out).mono ?_
      rintro e1 w10 ⟨rfl, hb⟩
      clear qB0
      have HB10 := Lib.hid (HB9.out.trans (hb.mono HB9.out.size))
      replace Kh := Lib.hid (Kh.out.bel hb)
      replace VT := Lib.hid (VT.out.bel hb)
      replace KB := Lib.hid (KB.out.bel hb)
      clear hb HB9
      have qB0 := KB.out.cell 0 rfl
      obtain ⟨ad, BT, mT, had, _, _, hrk, hallk⟩ := VT.out.isS.all K hKl
      subst had
      have hck := hallk w10 (Below.refl _ _)
      clear hallk
      go_wp2_with fail
      refine (CX.out _ w10 hrk).mono ?_
      rintro e1 w11 ⟨rfl, hb⟩
      clear qB0
      have HB11 := Lib.hid (HB10.out.trans (hb.mono HB10.out.size))
      replace Kh := Lib.hid (Kh.out.bel hb)
      replace VT := Lib.hid (VT.out.bel hb)
      replace KB := Lib.hid (KB.out.bel hb)
      clear hb HB10
      go_wp2_with fail
      go_ret
      exact ⟨rfl, HB11.out⟩
end Go.Proofs.Ytpfpkghihpcbkaa
