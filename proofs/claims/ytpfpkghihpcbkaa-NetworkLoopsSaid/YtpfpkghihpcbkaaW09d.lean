/- The walk of theseuslaw09.NetworkLoops. -/
import Derived.Test.YtpfpkghihpcbkaaL09
import Derived.Test.YtpfpkghihpcbkaaRef09
import Derived.Test.YtpfpkghihpcbkaaRef09f
import Derived.Deep.DeepCutAuto
import Derived.Deep.RegionHeld3
import Derived.BigQuiet
namespace Go.Proofs.Ytpfpkghihpcbkaa
open Go.RowKit
set_option linter.unusedVariables false
set_option linter.unusedSimpArgs false

theorem IsI.at_some {w : World} {ad : Addr} {n c : Nat} {l : List Int} (h : IsI w (.slice (some ad) n c) l) (i : Nat) (hi : i < l.length) : w.cell? (ad.add i) = some (.int .i64 l[i]) := by
  obtain ⟨A, n', c', e, _, _, _, h4⟩ := h
  injection e with e1 e2 e3
  subst e1
  obtain ⟨ad', e, h5⟩ := h4.at_ (k := i) (by rw [ints_length]; exact hi)
  injection e with e
  subst e
  rw [h5, ints_at l i hi]
theorem IsI.form {w : World} {A : Option Addr} {n c : Nat} {l : List Int} (h : Hid (IsI w (.slice A n c) l)) (hl : 0 < l.length) : ∃ ad, A = some ad ∧ True := by
  obtain ⟨A', n', c', e, _, _, _, h4⟩ := h.out
  injection e with e1 e2 e3
  subst e1
  obtain ⟨ad, e, _⟩ := h4 (by rw [ints_length]; exact hl)
  exact ⟨ad, e, trivial⟩
def bkB (N : Nt) (a : Nat) (t : Nat) (j : Nat) : Bool := (List.range j).any fun i => decide (itN N a (i + 1) (t : Int) = some (t : Int))
theorem bkB_succ (N : Nt) (a t j : Nat) : bkB N a t (j + 1) = (bkB N a t j || decide (itN N a (j + 1) (t : Int) = some (t : Int))) := by
  unfold bkB
  rw [List.range_succ, List.any_append]
  simp
theorem bkB_iff (N : Nt) (a t : Nat) : bkB N a t N.length = true ↔ Back N a t := by
  unfold bkB Back
  rw [List.any_eq_true]
  constructor
  · rintro ⟨i, hi, h⟩
    exact ⟨i + 1, by omega, by have := List.mem_range.1 hi; omega, by simpa using h⟩
  · rintro ⟨k, k1, k2, h⟩
    exact ⟨k - 1, List.mem_range.2 (by omega), by rw [show k - 1 + 1 = k by omega, decide_eq_true_iff]; exact h⟩
/-- the least one, so far: -1, if there is none -/
def lstV (N : Nt) (a : Nat) : Nat → Int
  | 0 => -1
  | v + 1 => if lstV N a v < 0 ∧ bkB N a v N.length = true then (v : Int) else lstV N a v
theorem lst_none {N : Nt} {a : Nat} : ∀ n : Nat, (∀ t : Nat, t < n → ¬ Back N a t) → lstV N a n = -1
  | 0, _ => rfl
  | n + 1, h => by
    have ih := lst_none n (fun t ht => h t (by omega))
    unfold lstV
    rw [ih, if_neg]
    rintro ⟨_, g⟩
    exact h n (by omega) ((bkB_iff N a n).1 g)
theorem lst_some {N : Nt} {a u : Nat} (hb : Back N a u) (hl : ∀ t : Nat, t < u → ¬ Back N a t) : ∀ n : Nat, u < n → lstV N a n = (u : Int)
  | 0, h => by omega
  | n + 1, h => by
    unfold lstV
    rcases Nat.lt_or_ge u n with g | g
    · rw [lst_some hb hl n g, if_neg (by omega)]
    · obtain rfl : u = n := by omega
      rw [lst_none u hl, if_pos ⟨by omega, (bkB_iff N a u).2 hb⟩]
/-- within a node: the numbers of steps up to j have been tried -/
def lstJ (N : Nt) (a v j : Nat) : Int := if lstV N a v < 0 ∧ bkB N a v j = true then (v : Int) else lstV N a v
theorem lstJ_zero (N : Nt) (a v : Nat) : lstJ N a v 0 = lstV N a v := by
  unfold lstJ
  rw [if_neg]
  rintro ⟨_, h⟩
  simp [bkB] at h
theorem lstJ_succ (N : Nt) (a v j : Nat) : lstJ N a v (j + 1) = if itN N a (j + 1) (v : Int) = some (v : Int) ∧ lstJ N a v j < 0 then (v : Int) else lstJ N a v j := by
  unfold lstJ
  rw [bkB_succ]
  by_cases h1 : lstV N a v < 0 <;> by_cases h2 : bkB N a v j = true <;> by_cases h3 : itN N a (j + 1) (v : Int) = some (v : Int) <;> simp [h1, h2, h3] <;> omega
theorem back_of {N : Nt} {a u K : Nat} (h : First N a u K) (hK : K ≤ N.length) : Back N a u := ⟨K, h.1, hK, h.2.1⟩
theorem path_some {N : Nt} {a u K : Nat} (h : First N a u K) {i : Nat} (hi : i < K) (hl : i < (path N a u K).length) : itN N a i u = some (path N a u K)[i] := by
  obtain ⟨x, hx⟩ := itN_less h.2.1 (Nat.le_of_lt hi)
  rw [path_at, hx]
  rfl
theorem path_zero {N : Nt} {a u K : Nat} (h0 : 0 < (path N a u K).length) : (path N a u K)[0] = (u : Int) := by rw [path_at]; rfl
theorem path_step {N : Nt} {a u K : Nat} (h : First N a u K) {i q : Nat} (hi : i < K) (hl : i < (path N a u K).length) (hq : (i + 1) % K = q) (hql : q < (path N a u K).length) : stN N a (path N a u K)[i] = some (path N a u K)[q] := by
  have h1 := path_some h hi hl
  have h2 := itN_snoc N a i u
  rw [h1] at h2
  change itN N a (i + 1) u = stN N a (path N a u K)[i] at h2
  rw [← h2]
  rcases Nat.lt_or_ge (i + 1) K with g | g
  · have hq2 : i + 1 = q := by rw [← hq, Nat.mod_eq_of_lt g]
    subst hq2
    exact path_some h g hql
  · have hK : i + 1 = K := by omega
    have hq2 : q = 0 := by rw [← hq, hK, Nat.mod_self]
    subst hq2
    rw [hK, h.2.1, path_zero hql]
theorem path_ne {N : Nt} {a u K : Nat} (h : First N a u K) {i k : Nat} (hk : k < i) (hi : i < K) (hkl : k < (path N a u K).length) (hil : i < (path N a u K).length) : (path N a u K)[k] ≠ (path N a u K)[i] := fun e => by
  refine first_unlike h hk hi ?_
  rw [path_some h (by omega) hkl, path_some h hi hil, e]
theorem path_gt {N : Nt} {a u K : Nat} (hin : InN N a N.length) (hu : u < N.length) (h : First N a u K) (hK : K ≤ N.length) (hl : ∀ t : Nat, t < u → ¬ Back N a t) {i : Nat} (h0 : 0 < i) (hi : i < K) (h0l : 0 < (path N a u K).length) (hil : i < (path N a u K).length) : (path N a u K)[0] < (path N a u K)[i] := by
  have h1 := path_some h hi hil
  have hne := path_ne h h0 hi h0l hil
  rw [path_zero h0l] at hne ⊢
  have hr := itN_in hin (by omega) (by omega) h1
  obtain ⟨t, ht⟩ := Int.eq_ofNat_of_zero_le hr.1
  rw [ht] at h1 hne ⊢
  have hback : Back N a t := by
    refine ⟨K, h.1, hK, ?_⟩
    have h2 : itN N a (i + K) u = itN N a K t := by rw [itN_add, h1]; rfl
    have h3 : itN N a (K + i) u = some (t : Int) := by rw [itN_add, h.2.1]; exact h1
    rw [← h2, Nat.add_comm, h3]
  rcases Nat.lt_or_ge t u with g | g
  · exact absurd hback (hl t g)
  · omega
set_option maxRecDepth 100000 in
set_option maxHeartbeats 8000000 in
theorem walkNetworkLoops (a0 : Option Addr) (n0 c0 : Nat) (l0 : Nt) (a1 : Int) (w : World) (w0 : InNet w a0 n0 c0 l0) (w1 : (Lit.int .u32 a1).wf = true) :
    Calls Try.prog 5 #[.agg #[.slice a0 n0 c0], .int .u32 a1] w fun e w' => e = .returned (.bool true) ∧ Below w.heap.size w w' := by
  obtain ⟨hl1, hh1⟩ := bounds_u32 w1
  obtain ⟨a, rfl⟩ := Int.eq_ofNat_of_zero_le hl1
  have ha : (a : Int) ≤ 4294967295 := by omega
  clear w1 hl1 hh1
  have hwf := w0.wf
  have VR := Lib.hid w0.isn
  have FT := Lib.hid (fun v w hv => rfitN_any v l0 w hv hwf)
  have hT := fitNt_ok (N := l0)
  have hTw := fitNt_wf hwf
  have hTl := fitNt_le (N := l0)
  have hTn := fitNt_len l0
  have hTb := manyN_bd l0
  generalize fitNt l0 = T at *
  obtain ⟨NT, hNT⟩ : ∃ NT, T.length = NT := ⟨_, rfl⟩
  have HNT := Lib.hid hNT
  have hN1 : 1 ≤ (NT : Int) := by omega
  have hN8 : (NT : Int) ≤ 8 := by omega
  have hin := okN_in a hT
  rw [hNT] at hin
  have HIN := Lib.hid hin
  have HTW := Lib.hid hTw
  have HTL := Lib.hid hTl
  have HTT := Lib.hid hT
  clear hTn hTb hin w0 hT hTw hTl hwf
  have CW := Lib.hid (fun v w u k hv => nwalk_any v T a u k w hv ha HTW.out)
  have CS := Lib.hid (fun v w u hv => nstep_any v T a u w hv ha HTW.out)
  have CL := Lib.hid (fun v w hv => nloop_any v T a w hv ha HTW.out (by rw [HNT.out]; omega))
  have HLJ := Lib.hid (lstJ_succ T a)
  clear hNT
  have HB0 := Lib.hid (Below.refl w.heap.size w)
  go_enter Try.func5, Try.ntmps5
  go_wp2_with fail
  obtain ⟨w1, hW⟩ : ∃ W, w.alloc (.cells #[.slice a0 n0 c0] 24) = W := ⟨_, rfl⟩
  obtain ⟨g, hG⟩ : ∃ G, w.heap.size = G := ⟨_, rfl⟩
  rw [hW, hG]
  have hb : Below w.heap.size w w1 := by subst hW; exact (Below.refl _ _).alloc (Nat.le_refl _) _
  have HB1 := Lib.hid (HB0.out.trans (hb.mono HB0.out.size))
  have Lg : Hid (w.heap.size ≤ g) := by subst hG; exact HB0.out.size
  replace VR := Lib.hid (VR.out.bel hb)
  have Kg : Hid (Blk g #[.slice a0 n0 c0] 24 w1) := by subst hW hG; exact Blk.new _ _ _
  clear hb hW hG HB0
  refine (shown9 w1).mono ?_
  rintro e1 w2 ⟨rfl, hb⟩
  have HB2 := Lib.hid (HB1.out.trans (hb.mono HB1.out.size))
  replace VR := Lib.hid (VR.out.bel hb)
  replace Kg := Lib.hid (Kg.out.bel hb)
  clear hb HB1
  have qg0 := Kg.out.cell 0 rfl
  go_wp2_with fail
  refine (FT.out _ w2 VR.out).mono ?_
  rintro e1 w3 ⟨tv, rfl, hown, hb⟩
  clear qg0
  have HB3 := Lib.hid (HB2.out.trans (hb.mono HB2.out.size))
  replace VR := Lib.hid (VR.out.bel hb)
  replace Kg := Lib.hid (Kg.out.bel hb)
  have VT := Lib.hid (hown)
  clear hb HB2
  clear hown FT
  clear VR
  obtain ⟨AT, cT, rfl, hTc, hTm, _⟩ := VT.out.slice
  rw [HNT.out] at hTc
  have hTc2 : (NT : Int) ≤ (cT : Int) := by omega
  simp only [HNT.out] at VT ⊢
  clear hTc hTm
  clear Kg
  go_upto_region 3 with fail
  obtain ⟨w4, hW⟩ : ∃ W, w3.alloc (.cells #[.slice AT NT cT] 24) = W := ⟨_, rfl⟩
  obtain ⟨B, hG⟩ : ∃ G, w3.heap.size = G := ⟨_, rfl⟩
  rw [hW, hG]
  have hb : Below w3.heap.size w3 w4 := by subst hW; exact (Below.refl _ _).alloc (Nat.le_refl _) _
  have HB4 := Lib.hid (HB3.out.trans (hb.mono HB3.out.size))
  have LB : Hid (w.heap.size ≤ B) := by subst hG; exact HB3.out.size
  replace VT := Lib.hid (VT.out.bel hb)
  have KB : Hid (Blk B #[.slice AT NT cT] 24 w4) := by subst hW hG; exact Blk.new _ _ _
  clear hb hW hG HB3
  have qB0 := KB.out.cell 0 rfl
  go_wp2_with fail
  refine (CL.out _ w4 VT.out).mono ?_
  rintro e1 w5 ⟨lv, rfl, hl, hb⟩
  clear qB0
  have HB5 := Lib.hid (HB4.out.trans (hb.mono HB4.out.size))
  replace VT := Lib.hid (VT.out.bel hb)
  replace KB := Lib.hid (KB.out.bel hb)
  have VL := Lib.hid (hl)
  clear hb HB4
  clear hl CL
  obtain ⟨AL, nL, cL, rfl, hn1, hn2, hLL, _⟩ := VL.out
  have HLL := Lib.hid hLL
  have hnL : (nL : Int) ≤ 9223372036854775807 := by unfold maxLen at hn2; omega
  clear hLL hn1 hn2
  go_wp2_with fail
  go_loopw [9, 10] (fun x i wr => ∃ v : Nat, v ≤ NT ∧ i = .int .i64 v ∧ x = .int .i64 (lstV T a v) ∧ Hid (IsN wr (.agg #[.slice AT NT cT]) T) ∧ Hid (Blk B #[.slice AT NT cT] 24 wr) ∧ Hid (IsI wr (.slice AL nL cL) ((lpN T a).getD [])) ∧ Hid (Below w.heap.size w wr)) (fun _ i _ => NT - (intOf i).toNat)
  case atStart => exact ⟨0, by omega, rfl, rfl, VT, KB, VL, HB5⟩
  case round =>
    clear VT KB VL HB5
    obtain ⟨v, hv, rfl, rfl, VT, KB, VL, HB0⟩ := hrel
    generalize wr = wo at *
    by_cases hlt : v < NT
    · have hvi : (v : Int) < (NT : Int) := by omega
      have hvz : (0 : Int) ≤ (v : Int) := by omega
      have q0 := KB.out.cell 0 rfl
      have hE : lstJ T a v NT = lstV T a (v + 1) := by
        unfold lstJ
        rw [← HNT.out]
        rfl
      have HE := Lib.hid hE
      have CV : Hid (∀ (j : Nat), j < NT → ∀ x w, IsN w x T → Calls Try.prog 21 #[x, .int .u32 (a : Int), .int .i64 (v : Int), .int .i64 ((j + 1 : Nat) : Int)] w fun e w' => e = .returned (.tuple #[.int .i64 (resO (itN T a (j + 1) v)).1, .bool (resO (itN T a (j + 1) v)).2]) ∧ Below w.heap.size w w') := fun j hj x w hx => by
        have h := CW.out x w (v : Int) ((j + 1 : Nat) : Int) hx
        rw [wkN_ok (by omega) (by omega) hvz (by rw [HNT.out]; exact hvi)] at h
        exact h
      clear hE
      go_wp2_with fail
      clear q0
      go_loopw [9, 11] (fun x i wr => ∃ j : Nat, j ≤ NT ∧ i = .int .i64 ((j + 1 : Nat) : Int) ∧ x = .int .i64 (lstJ T a v j) ∧ Hid (IsN wr (.agg #[.slice AT NT cT]) T) ∧ Hid (Blk B #[.slice AT NT cT] 24 wr) ∧ Hid (IsI wr (.slice AL nL cL) ((lpN T a).getD [])) ∧ Hid (Below w.heap.size w wr)) (fun _ i _ => NT + 1 - (intOf i).toNat)
      case atStart => exact ⟨0, by omega, rfl, by rw [lstJ_zero], VT, KB, VL, HB0⟩
      case round =>
        clear VT KB VL HB0
        obtain ⟨j, hj, rfl, rfl, VT, KB, VL, HB0⟩ := hrel
        have q0 := KB.out.cell 0 rfl
        by_cases hjl : j < NT
        · have hji : ((j + 1 : Nat) : Int) ≤ (NT : Int) := by omega
          have hj1 : IntKind.i64.wrap (((j + 1 : Nat) : Int) + 1) = ((j + 1 + 1 : Nat) : Int) := by rw [IntKind.wrap_i64]; omega
          have C2 := Lib.hid (CV.out j hjl)
          have HI := Lib.hid (HLJ.out v j)
          have hjm : j + 1 ≤ NT := by omega
          obtain ⟨j1, hj1e⟩ : ∃ j1, j + 1 = j1 := ⟨_, rfl⟩
          have HJ1 := Lib.hid hj1e
          rw [hj1e] at hji hj1 C2 HI ⊢
          rw [hj1e] at hjm
          generalize itN T a j1 (v : Int) = o at *
          generalize lstJ T a v j = y at *
          have HOR : Hid (∃ t0 : Bool, decide (o = some (v : Int)) = t0 ∧ (((resO o).2 = false ∧ t0 = false) ∨ ((resO o).2 = true ∧ ((resO o).1 == (v : Int)) = t0))) := by
            cases o with
            | none => exact ⟨false, by simp, .inl ⟨rfl, rfl⟩⟩
            | some t => exact ⟨decide (t = (v : Int)), by simp, .inr ⟨rfl, by rw [Bool.eq_iff_iff]; simp [resO]⟩⟩
          obtain ⟨t0, ht0, hcase⟩ := HOR.out
          have HI2 : Hid (lstJ T a v j1 = if t0 = true ∧ y < 0 then (v : Int) else y) := by
            show _ = _
            rw [HI.out]
            subst ht0
            simp
          clear HOR ht0 HI hj1e
          generalize (resO o).1 = x1 at *
          generalize (resO o).2 = x2 at *
          rcases hcase with ⟨rfl, rfl⟩ | ⟨rfl, ht⟩
          · have HI3 : Hid (lstJ T a v j1 = y) := by show _ = _; rw [HI2.out]; simp
            clear HI2
            go_wp2_with fail
            refine (C2.out _ wr VT.out).mono ?_
            rintro e1 w4 ⟨rfl, hb⟩
            replace HB0 := Lib.hid (HB0.out.trans (hb.mono HB0.out.size))
            replace VT := Lib.hid (VT.out.bel hb)
            replace KB := Lib.hid (KB.out.bel hb)
            replace VL := Lib.hid (VL.out.bel hb)
            clear hb q0 C2
            go_wp2_with fail
            go_roundw
            case rel => exact ⟨j1, hjm, by go_num, by rw [HI3.out], VT, KB, VL, HB0⟩
            case measure => simp [intOf]; omega
          · cases t0 with
            | false =>
              have HI3 : Hid (lstJ T a v j1 = y) := by show _ = _; rw [HI2.out]; simp
              clear HI2
              go_wp2_with fail
              refine (C2.out _ wr VT.out).mono ?_
              rintro e1 w4 ⟨rfl, hb⟩
              replace HB0 := Lib.hid (HB0.out.trans (hb.mono HB0.out.size))
              replace VT := Lib.hid (VT.out.bel hb)
              replace KB := Lib.hid (KB.out.bel hb)
              replace VL := Lib.hid (VL.out.bel hb)
              clear hb q0 C2
              go_wp2_with fail
              go_roundw
              case rel => exact ⟨j1, hjm, by go_num, by rw [HI3.out], VT, KB, VL, HB0⟩
              case measure => simp [intOf]; omega
            | true =>
              by_cases hy : y < 0
              · have HI3 : Hid (lstJ T a v j1 = (v : Int)) := by show _ = _; rw [HI2.out, if_pos ⟨rfl, hy⟩]
                have hd : decide (y < 0) = true := decide_eq_true hy
                clear HI2
                go_wp2_with fail
                refine (C2.out _ wr VT.out).mono ?_
                rintro e1 w4 ⟨rfl, hb⟩
                replace HB0 := Lib.hid (HB0.out.trans (hb.mono HB0.out.size))
                replace VT := Lib.hid (VT.out.bel hb)
                replace KB := Lib.hid (KB.out.bel hb)
                replace VL := Lib.hid (VL.out.bel hb)
                clear hb q0 C2
                go_wp2_with fail
                go_roundw
                case rel => exact ⟨j1, hjm, by go_num, by rw [HI3.out], VT, KB, VL, HB0⟩
                case measure => simp [intOf]; omega
              · have HI3 : Hid (lstJ T a v j1 = y) := by show _ = _; rw [HI2.out, if_neg (fun h => hy h.2)]
                have hd : decide (y < 0) = false := decide_eq_false hy
                clear HI2
                go_wp2_with fail
                refine (C2.out _ wr VT.out).mono ?_
                rintro e1 w4 ⟨rfl, hb⟩
                replace HB0 := Lib.hid (HB0.out.trans (hb.mono HB0.out.size))
                replace VT := Lib.hid (VT.out.bel hb)
                replace KB := Lib.hid (KB.out.bel hb)
                replace VL := Lib.hid (VL.out.bel hb)
                clear hb q0 C2
                go_wp2_with fail
                go_roundw
                case rel => exact ⟨j1, hjm, by go_num, by rw [HI3.out], VT, KB, VL, HB0⟩
                case measure => simp [intOf]; omega
        · obtain rfl : j = NT := by omega
          rw [HE.out]
          have hji : ¬ ((j + 1 : Nat) : Int) ≤ (j : Int) := by omega
          go_wp2_with fail
          go_roundw
          case rel => exact ⟨v + 1, by omega, by go_num, rfl, VT, KB, VL, HB0⟩
          case measure => simp [intOf]; omega
    · obtain rfl : v = NT := by omega
      have q0 := KB.out.cell 0 rfl
      rcases lpN_or T a with ⟨hno, hn⟩ | ⟨u, K, hu, hK, hf, hso, hl⟩
      · have e := lst_none v (by rw [HNT.out] at hn; exact hn)
        rw [hno] at HLL VL ⊢
        have hz : nL = 0 := HLL.out.symm
        subst hz
        rw [e]
        clear hno hn e HLL HLJ
        go_wp2_with fail
        go_ret
        exact ⟨rfl, HB0.out⟩
      · have e := lst_some (back_of hf hK) hl v (by rw [← HNT.out]; exact hu)
        rw [hso] at HLL VL ⊢
        have hKn : K = nL := by have := HLL.out; rw [Option.getD_some, path_len] at this; exact this
        subst hKn
        rw [e]
        have hK1 := hf.1
        have hKN : K ≤ v := by rw [← HNT.out]; exact hK
        have hin2 := HIN.out
        rw [← HNT.out] at hin2
        have HPL : Hid ((path T a u K).length = K) := path_len T a u K
        have HP0 : Hid (∀ h : 0 < (path T a u K).length, (path T a u K)[0] = (u : Int)) := fun h => path_zero h
        have HPS : Hid (∀ i q (hi : i < (path T a u K).length) (hq : q < (path T a u K).length), (i + 1) % K = q → stN T a (path T a u K)[i] = some (path T a u K)[q]) := fun i q hi hq h => path_step hf (by rw [path_len] at hi; exact hi) hi h hq
        have HPN : Hid (∀ k i (hk : k < (path T a u K).length) (hi : i < (path T a u K).length), k < i → (path T a u K)[k] ≠ (path T a u K)[i]) := fun k i hk hi h => path_ne hf h (by rw [path_len] at hi; exact hi) hk hi
        have HPG : Hid (∀ i (h0 : 0 < (path T a u K).length) (hi : i < (path T a u K).length), 0 < i → (path T a u K)[0] < (path T a u K)[i]) := fun i h0 hi h => path_gt hin2 hu hf hK hl h (by rw [path_len] at hi; exact hi) h0 hi
        rw [Option.getD_some] at VL
        clear HLL hf hK hl hso hu hin2 e HLJ CW
        generalize path T a u K = P at *
        have hP0 : 0 < P.length := by rw [HPL.out]; omega
        obtain ⟨ad, had, _⟩ := IsI.form VL hP0
        subst had
        have HC : Hid (∀ wx, Below wo.heap.size wo wx → ∀ i (hi : i < P.length), wx.cell? (ad.add i) = some (.int .i64 P[i])) := fun wx hx i hi => (VL.out.bel hx).at_some i hi
        have HU := HP0.out hP0
        have l0 : wo.cell? ad = some (.int .i64 (u : Int)) := by
          have h := HC.out wo (Below.refl _ _) 0 hP0
          rw [addr_zero, HU] at h
          exact h
        have t1 : ((K : Int) == 0) = false := by rw [beq_eq_false_iff_ne]; omega
        have t2 : decide ((K : Int) > (v : Int)) = false := decide_eq_false (by omega)
        have t3 : decide (v < K) = false := decide_eq_false (by omega)
        have t4 : (((u : Int)) != (u : Int)) = false := by simp
        have hK0 : (0 : Int) < (K : Int) := by omega
        go_wp2_with fail
        clear l0 t1 t2 t3 t4 q0 HU
        generalize wo = wb at *
        go_loopw [14] (fun i wr => ∃ k : Nat, k ≤ K ∧ i = .int .i64 k ∧ Hid (IsN wr (.agg #[.slice AT v cT]) T) ∧ Hid (Blk B #[.slice AT v cT] 24 wr) ∧ Hid (Below wb.heap.size wb wr)) (fun i _ => K - (intOf i).toNat)
        case atStart => exact ⟨0, by omega, rfl, VT, KB, Below.refl _ _⟩
        case round =>
          clear VT KB
          obtain ⟨i, hi, rfl, VT, KB, HBr⟩ := hrel
          generalize wr = wc0 at *
          by_cases hlt : i < K
          · have hil : i < P.length := by rw [HPL.out]; exact hlt
            have hii : (i : Int) < (K : Int) := by omega
            have hiz : (0 : Int) ≤ (i : Int) := by omega
            obtain ⟨q, hq⟩ : ∃ q, (i + 1) % K = q := ⟨_, rfl⟩
            have hqK : q < K := by rw [← hq]; exact Nat.mod_lt _ (by omega)
            have hql : q < P.length := by rw [HPL.out]; exact hqK
            have hst := HPS.out i q hil hql hq
            obtain ⟨i1, hi1⟩ : ∃ i1, i + 1 = i1 := ⟨_, rfl⟩
            have hw1 : IntKind.i64.wrap ((i : Int) + 1) = (i1 : Int) := by rw [IntKind.wrap_i64]; omega
            rw [hi1] at hq
            have hw2 : Int.tmod (i1 : Int) (K : Int) = (q : Int) := by rw [Int.tmod_eq_emod_of_nonneg (by omega)]; omega
            have hw3 : IntKind.i64.wrap (q : Int) = (q : Int) := IntWalk.i64_in _ (by omega)
            have hw4 : (i1 : Int) % (K : Int) = (q : Int) := by omega
            have hw5 : ((K : Int) == 0) = false := by rw [beq_eq_false_iff_ne]; omega
            have hw6 : (K : Int) ≠ 0 := by omega
            have hqz : (0 : Int) ≤ (q : Int) := by omega
            have hqi : (q : Int) < (K : Int) := by omega
            have C := Lib.hid (fun x w hx => CS.out x w P[i] hx)
            rw [hst, resO_some] at C
            have HCI : Hid (∀ wx, Below wb.heap.size wb wx → wx.cell? (ad.add i) = some (.int .i64 P[i])) := fun wx hx => HC.out wx hx i hil
            have HCQ : Hid (∀ wx, Below wb.heap.size wb wx → wx.cell? (ad.add q) = some (.int .i64 P[q])) := fun wx hx => HC.out wx hx q hql
            have HC0 : Hid (∀ wx, Below wb.heap.size wb wx → wx.cell? ad = some (.int .i64 P[0])) := fun wx hx => by
              have h := HC.out wx hx 0 hP0
              rw [addr_zero] at h
              exact h
            have HNE : Hid (∀ k (hk : k < P.length), k < i → P[k] ≠ P[i]) := fun k hk h => HPN.out k i hk hil h
            have HGT : Hid (0 < i → P[0] < P[i]) := fun h => HPG.out i hP0 hil h
            generalize P[q] = xq at *
            generalize hxi : P[i] = xi at *
            have hxi2 := Lib.hid hxi
            generalize P[0] = xz at *
            have tq : (xq != xq) = false := by simp
            have HD := Lib.hid (Below.refl wc0.heap.size wc0).drew
            have HQ : Hid (∀ wx, Below wc0.heap.size wc0 wx → wx.cell? ⟨B, 0, none⟩ = some (.slice AT v cT) ∧ wx.cell? (ad.add i) = some (.int .i64 xi)) := fun wx hx => ⟨(KB.out.bel hx).cell 0 rfl, HCI.out wx (HBr.out.trans (hx.mono HBr.out.size))⟩
            obtain ⟨q0, q1⟩ := HQ.out wc0 (Below.refl _ _)
            clear hst hq hi1 hxi
            go_upto_region 21 with fail
            go_cut [15, 16] (fun x y wx => x = .int .i64 xq ∧ y = .bool true ∧ Hid (Below wc0.heap.size wc0 wx))
            case first =>
              go_region_held3 (fun w' => w'.cell? ⟨B, 0, none⟩ = some (.slice AT v cT) ∧ w'.cell? (ad.add i) = some (.int .i64 xi))
                (first | go_keep | exact HQ.out _ HD.out | exact HQ.out _ D1.out)
                (first
                  | (go_simp; go_at_call 19; (with_reducible refine (C.out _ _ (VT.out.bel HD.out)).mono ?_); rintro e8 w8 ⟨rfl, hb8⟩; have D1 := Lib.hid (HD.out.trans (hb8.mono HD.out.size)); clear hb8))
              all_goals
                go_wp2_with fail
                go_meet
                exact ⟨rfl, rfl, D1⟩
            case rest =>
              obtain ⟨rfl, rfl, HBc⟩ := hcut
              generalize wc = wd at *
              replace VT := Lib.hid (VT.out.bel HBc.out)
              replace KB := Lib.hid (KB.out.bel HBc.out)
              replace HBr := Lib.hid (HBr.out.trans (HBc.out.mono HBr.out.size))
              clear HBc HD HQ q0 q1 C
              have p1 := HCI.out wd HBr.out
              have p2 := HCQ.out wd HBr.out
              have p3 := HC0.out wd HBr.out
              go_upto_region 22 with fail
              go_cut [137] (fun t wx => t = .bool false ∧ Hid (Below wd.heap.size wd wx))
              case first =>
                rcases Nat.eq_zero_or_pos i with h0 | h0
                · have d1 : decide ((i : Int) > 0) = false := decide_eq_false (by omega)
                  have d2 : decide (0 < i) = false := decide_eq_false (by omega)
                  have d3 : decide ((0 : Int) < (i : Int)) = false := decide_eq_false (by omega)
                  clear h0
                  go_quiet (fail)
                  go_wp2_with fail
                  go_meet
                  exact ⟨rfl, drewN_below (Below.refl _ _) _⟩
                · have d1 : decide ((i : Int) > 0) = true := decide_eq_true (by omega)
                  have d2 : decide (0 < i) = true := decide_eq_true h0
                  have d3 : decide ((0 : Int) < (i : Int)) = true := decide_eq_true (by omega)
                  have hg := HGT.out h0
                  have d4 : decide (xi ≤ xz) = false := decide_eq_false (by omega)
                  clear h0 hg
                  go_quiet (fail)
                  go_wp2_with fail
                  go_meet
                  exact ⟨rfl, drewN_below (Below.refl _ _) _⟩
              case rest =>
                obtain ⟨rfl, HBc⟩ := hcut
                generalize wc = we at *
                replace VT := Lib.hid (VT.out.bel HBc.out)
                replace KB := Lib.hid (KB.out.bel HBc.out)
                replace HBr := Lib.hid (HBr.out.trans (HBc.out.mono HBr.out.size))
                clear HBc p1 p2 p3 hw1 hw2 hw3 hw4 hw5 hw6 hqz hqi tq HCQ HC0 HGT
                go_wp2_with fail
                go_loopw [17] (fun j wr => ∃ k : Nat, k ≤ i ∧ j = .int .i64 k ∧ Hid (IsN wr (.agg #[.slice AT v cT]) T) ∧ Hid (Blk B #[.slice AT v cT] 24 wr) ∧ Hid (Below wb.heap.size wb wr)) (fun j _ => i - (intOf j).toNat)
                case atStart => exact ⟨0, by omega, rfl, VT, KB, HBr⟩
                case round =>
                  clear VT KB HBr
                  obtain ⟨k, hk, rfl, VT, KB, HBr⟩ := hrel
                  by_cases hkl : k < i
                  · have hki : (k : Int) < (i : Int) := by omega
                    have hkz : (0 : Int) ≤ (k : Int) := by omega
                    have hkK : (k : Int) < (K : Int) := by omega
                    have hkP : k < P.length := by omega
                    have hne := HNE.out k hkP hkl
                    have p1 := HCI.out wr HBr.out
                    have p2 := HC.out wr HBr.out k hkP
                    generalize P[k] = xk at *
                    have te : (xk == xi) = false := by rw [beq_eq_false_iff_ne]; exact hne
                    clear hne
                    go_wp2_with fail
                    go_quiet (fail)
                    go_wp2_with fail
                    go_roundw
                    case rel => exact ⟨k + 1, by omega, by go_num, VT.out.bel (drewN_below (Below.refl _ _) _), KB.out.bel (drewN_below (Below.refl _ _) _), drewN_below HBr.out _⟩
                    case measure => simp [intOf]; omega
                  · obtain rfl : k = i := by omega
                    go_wp2_with fail
                    go_roundw
                    case rel => exact ⟨k + 1, by omega, by go_num, VT, KB, HBr⟩
                    case measure => simp [intOf]; omega
          · obtain rfl : i = K := by omega
            go_wp2_with fail
            go_ret
            exact ⟨rfl, HB0.out.trans (HBr.out.mono HB0.out.size)⟩
end Go.Proofs.Ytpfpkghihpcbkaa
