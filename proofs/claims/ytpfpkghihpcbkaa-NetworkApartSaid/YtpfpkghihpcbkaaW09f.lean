/- The walk of theseuslaw09.NetworkApart. -/
import Derived.Test.YtpfpkghihpcbkaaL09
import Derived.Test.YtpfpkghihpcbkaaRef09
import Derived.Test.YtpfpkghihpcbkaaRef09f
import Derived.Test.YtpfpkghihpcbkaaNetOwn
import Derived.Deep.DeepCutAuto
import Derived.Deep.RegionHeld3
namespace Go.Proofs.Ytpfpkghihpcbkaa
open Go.RowKit
set_option linter.unusedVariables false
set_option linter.unusedSimpArgs false

def dropR (r : Rl) : Rl := ⟨r.at_, r.len, 3, r.nxt⟩
theorem drop_none {l : List Rl} (a : Nat) : asO (nextT (findF (l.map dropR) a)) = none := by
  cases e : findF (l.map dropR) a with
  | none => rfl
  | some r =>
    obtain ⟨x, _, hx⟩ := List.mem_map.1 (find_some e).1
    have h : r.act = 3 := by rw [← hx]; rfl
    unfold nextT asO
    simp [h]
theorem st_more {N : Nt} {l : List Rl} (a : Nat) (v : Int) : stN (N ++ [l.map dropR]) a v = stN N a v := by
  rcases Int.lt_or_le v 0 with h | h
  · rw [stN_low _ _ h, stN_low _ _ h]
  · obtain ⟨k, rfl⟩ := Int.eq_ofNat_of_zero_le h
    rcases Nat.lt_trichotomy k N.length with g | g | g
    · rw [stN_at _ a k (by rw [List.length_append]; omega), stN_at _ a k g, List.getElem_append_left g]
    · rw [stN_high N a (by omega), stN_at _ a k (by rw [List.length_append]; simp; omega), List.getElem_append_right (by omega)]
      subst g
      simp only [Nat.sub_self, List.getElem_cons_zero]
      exact drop_none a
    · rw [stN_high N a (by omega), stN_high _ a (by rw [List.length_append]; simp; omega)]
theorem it_more {N : Nt} {l : List Rl} (a : Nat) : ∀ (k : Nat) (v : Int), itN (N ++ [l.map dropR]) a k v = itN N a k v
  | 0, _ => rfl
  | k + 1, v => by
    show (stN _ a v).bind _ = (stN N a v).bind _
    rw [st_more]
    cases stN N a v with
    | none => rfl
    | some w => exact it_more a k w
theorem wk_more {N : Nt} {l : List Rl} (a : Nat) {v k : Int} (h1 : v < N.length) : wkN (N ++ [l.map dropR]) a v k = wkN N a v k := by
  by_cases h : k < 0 ∨ 256 < k ∨ v < 0
  · rw [wkN_no (by omega), wkN_no (by omega)]
  · rw [wkN_ok (by omega) (by omega) (by omega) (by rw [List.length_append]; omega), wkN_ok (by omega) (by omega) (by omega) h1, it_more]
theorem first_more {N : Nt} {l : List Rl} {a : Nat} {v : Int} {K : Nat} : First (N ++ [l.map dropR]) a v K ↔ First N a v K := by
  unfold First
  simp only [it_more]
theorem back_more {N : Nt} {l : List Rl} {a : Nat} (hin : InN N a N.length) {t : Nat} (h : Back (N ++ [l.map dropR]) a t) : t < N.length ∧ Back N a t := by
  obtain ⟨K, hK, hf⟩ := back_first h
  rw [first_more] at hf
  have ht : (t : Int) < N.length := by
    have h1 := hf.2.1
    rw [show K = (K - 1) + 1 by have := hf.1; omega] at h1
    change (stN N a t).bind _ = _ at h1
    cases e : stN N a (t : Int) with
    | none => rw [e] at h1; cases h1
    | some x => exact (stN_in e).2
  exact ⟨by omega, K, hf.1, first_le hin (by omega) ht hf, hf.2.1⟩
theorem lp_more {N : Nt} {l : List Rl} {a : Nat} (hin : InN N a N.length) : lpN (N ++ [l.map dropR]) a = lpN N a := by
  rcases lpN_or N a with ⟨h, hn⟩ | ⟨u, K, u1, k1, hf, h, hl⟩
  · rw [h]
    exact lpN_no fun t _ hb => hn t (back_more hin hb).1 (back_more hin hb).2
  · rw [h, lpN_yes (u := u) (K := K) (by rw [List.length_append]; omega) (first_more.2 hf) (by rw [List.length_append]; omega) (fun t ht hb => hl t ht (back_more hin hb).2)]
    unfold path
    simp only [it_more]
theorem drop_succ (l : List Rl) (k : Nat) (hk : k < l.length) : (l.take (k + 1)).map dropR = (l.take k).map dropR ++ [dropR l[k]] := by
  rw [List.take_succ_eq_append_getElem hk, List.map_append]
  rfl
theorem rowsOf_isS {w : World} {A : Option Addr} {n c : Nat} {N : Nt} (h : IsS w (.slice A n c) N) : ∃ vs, vs.length = n ∧ Has w A vs ∧ RowsOf w N vs ∧ ∀ u ∈ vs, u.oneCell' = true := by
  obtain ⟨A', n', c', vs, e, h1, h2, h3, h4, h5, h6⟩ := h
  injection e with e1 e2 e3
  subst e1 e2 e3
  refine ⟨vs, h4, h5, ⟨by omega, h6⟩, fun u hu => ?_⟩
  obtain ⟨i, hi, rfl⟩ := List.getElem_of_mem hu
  obtain ⟨B, k, m, g, _⟩ := h6 i hi (by omega)
  rw [g]
  rfl
theorem isN_isS {w : World} {s : Value} {N : Nt} (h : IsN w (.agg #[s]) N) : IsS w s N := by
  obtain ⟨s', e, h1⟩ := h
  injection e with e
  simp at e
  subst e
  exact h1
set_option maxRecDepth 100000 in
set_option maxHeartbeats 8000000 in
theorem walkNetworkApart (a0 : Option Addr) (n0 c0 : Nat) (l0 : Nt) (a1 : Option Addr) (n1 c1 : Nat) (l1 : List Rl) (a2 : Int) (w : World) (w0 : InNet w a0 n0 c0 l0) (w1 : InR w a1 n1 c1 l1) (w2 : (Lit.int .u32 a2).wf = true) :
    Calls Try.prog 9 #[.agg #[.slice a0 n0 c0], .slice a1 n1 c1, .int .u32 a2] w fun e w' => e = .returned (.bool true) ∧ Below w.heap.size w w' := by
  obtain ⟨hl2, hh2⟩ := bounds_u32 w2
  obtain ⟨a, rfl⟩ := Int.eq_ofNat_of_zero_le hl2
  have ha : (a : Int) ≤ 4294967295 := by omega
  clear w2 hl2 hh2
  have hwf := w0.wf
  have VR := Lib.hid w0.isn
  have FT := Lib.hid (fun v w hv => rfitN_any v l0 w hv hwf)
  have hT := fitNt_ok (N := l0)
  have hTw := fitNt_wf hwf
  have hTl := fitNt_le (N := l0)
  have hTn := fitNt_len l0
  have hTb := manyN_bd l0
  generalize fitNt l0 = T at *
  obtain ⟨NT, hNT⟩ : ∃ NT, T.length = NT := ⟨_, rfl⟩
  have HNT := Lib.hid hNT
  have hN1 : 1 ≤ (NT : Int) := by omega
  have hN8 : (NT : Int) ≤ 8 := by omega
  have hin := okN_in a hT
  rw [hNT] at hin
  have HIN := Lib.hid hin
  have HTW := Lib.hid hTw
  have HTL := Lib.hid hTl
  have HTT := Lib.hid hT
  clear hTn hTb hin w0 hT hTw hTl hwf
  have HL1 := Lib.hid w1.len
  have hn1 : (n1 : Int) ≤ 9223372036854775807 := by have := w1.cap; have := w1.max; unfold maxLen at this; omega
  have HLW : Hid (∀ r ∈ l1, r.at_ ≤ 4294967295) := fun r hr => (w1.wf r hr).1
  have VQ := Lib.hid w1.has
  have HRI := Lib.hid rule_info
  have HII := Lib.hid row_info
  have hin2 := HIN.out
  rw [← hNT] at hin2
  have HIN2 := Lib.hid hin2
  clear hNT hin2 w1
  have HB0 := Lib.hid (Below.refl w.heap.size w)
  go_enter Try.func9, Try.ntmps9
  go_wp2_with fail
  obtain ⟨w1, hW⟩ : ∃ W, w.alloc (.cells #[.slice a0 n0 c0] 24) = W := ⟨_, rfl⟩
  obtain ⟨g, hG⟩ : ∃ G, w.heap.size = G := ⟨_, rfl⟩
  rw [hW, hG]
  have hb : Below w.heap.size w w1 := by subst hW; exact (Below.refl _ _).alloc (Nat.le_refl _) _
  have HB1 := Lib.hid (HB0.out.trans (hb.mono HB0.out.size))
  have Lg : Hid (w.heap.size ≤ g) := by subst hG; exact HB0.out.size
  replace VR := Lib.hid (VR.out.bel hb)
  replace VQ := Lib.hid (VQ.out.bel hb)
  have Kg : Hid (Blk g #[.slice a0 n0 c0] 24 w1) := by subst hW hG; exact Blk.new _ _ _
  clear hb hW hG HB0
  refine (shown9 w1).mono ?_
  rintro e1 w2 ⟨rfl, hb⟩
  have HB2 := Lib.hid (HB1.out.trans (hb.mono HB1.out.size))
  replace VR := Lib.hid (VR.out.bel hb)
  replace VQ := Lib.hid (VQ.out.bel hb)
  replace Kg := Lib.hid (Kg.out.bel hb)
  clear hb HB1
  have qg0 := Kg.out.cell 0 rfl
  go_wp2_with fail
  refine (FT.out _ w2 VR.out).mono ?_
  rintro e1 w3 ⟨tv, rfl, hown, hb⟩
  clear qg0
  have HB3 := Lib.hid (HB2.out.trans (hb.mono HB2.out.size))
  replace VR := Lib.hid (VR.out.bel hb)
  replace VQ := Lib.hid (VQ.out.bel hb)
  replace Kg := Lib.hid (Kg.out.bel hb)
  have VT := Lib.hid (hown)
  clear hb HB2
  clear hown FT
  clear VR
  obtain ⟨AT, cT, rfl, hTc, hTm, _⟩ := VT.out.slice
  rw [HNT.out] at hTc
  have hTc2 : (NT : Int) ≤ (cT : Int) := by omega
  simp only [HNT.out] at VT ⊢
  clear hTc hTm
  clear Kg
  go_upto_region 3 with fail
  obtain ⟨w4, hW⟩ : ∃ W, w3.alloc (.cells #[.slice AT NT cT] 24) = W := ⟨_, rfl⟩
  obtain ⟨B, hG⟩ : ∃ G, w3.heap.size = G := ⟨_, rfl⟩
  rw [hW, hG]
  have hb : Below w3.heap.size w3 w4 := by subst hW; exact (Below.refl _ _).alloc (Nat.le_refl _) _
  have HB4 := Lib.hid (HB3.out.trans (hb.mono HB3.out.size))
  have LB : Hid (w.heap.size ≤ B) := by subst hG; exact HB3.out.size
  replace VQ := Lib.hid (VQ.out.bel hb)
  replace VT := Lib.hid (VT.out.bel hb)
  have KB : Hid (Blk B #[.slice AT NT cT] 24 w4) := by subst hW hG; exact Blk.new _ _ _
  clear hb hW hG HB3
  go_wp2_with fail
  obtain ⟨i0, hi0, hz0, hz1, hz2⟩ := info_parts HRI.out
  have ol0 : Hid (OwnR 46 w4.heap.size (.slice (some ⟨w4.heap.size, 0, none⟩) 0 0) ((l1.take 0).map dropR) (w4.alloc (.cells #[] 46))) := World.ownsRow_lit (e := 46) (size := 4) w4 #[] 0 (Nat.le_refl _) (by decide) rfl
  have hbl : Hid (Below w4.heap.size w4 (w4.alloc (.cells #[] 46))) := (Below.refl _ _).alloc (Nat.le_refl _) _
  have VQF : Hid (∀ wx, Below w4.heap.size w4 wx → Has wx a1 (rcells l1)) := fun wx hx => VQ.out.bel hx
  go_loopw [9, 10] (fun x i wr => ∃ k : Nat, k ≤ n1 ∧ k ≤ 20 ∧ i = .int .i64 k ∧ Hid (OwnR 46 w4.heap.size x ((l1.take k).map dropR) wr) ∧ Hid (Below w4.heap.size w4 wr)) (fun _ i _ => 20 - (intOf i).toNat)
  case atStart => exact ⟨0, by omega, by omega, rfl, ol0, hbl⟩
  case round =>
    clear ol0 hbl
    obtain ⟨k, hk1, hk20, rfl, HO, HBr⟩ := hrel
    by_cases hend : k < n1 ∧ k < 20
    · obtain ⟨hlt, hlt2⟩ := hend
      have hkl : k < l1.length := by rw [HL1.out]; exact hlt
      have hki : (k : Int) < (n1 : Int) := by omega
      have hk2 : (k : Int) < 20 := by omega
      have hkz : (0 : Int) ≤ (k : Int) := by omega
      have hQ := VQF.out wr HBr.out
      obtain ⟨ad, rfl, _⟩ := hQ (by rw [rcells_length]; omega)
      obtain ⟨f0, f1, f2, f3⟩ := hQ.four k hkl
      clear hQ
      have hs := drop_succ l1 k hkl
      generalize l1[k] = rk at *
      have hlen : ((l1.take k).map dropR).length ≤ 20 := by rw [List.length_map, List.length_take]; omega
      have HS := Lib.hid hs
      obtain ⟨RK, hRK⟩ : ∃ x, (l1.take k).map dropR = x := ⟨_, rfl⟩
      rw [hRK] at HO HS hlen
      clear hs hRK
      have hsz : w4.heap.size ≤ wr.heap.size := HBr.out.size
      have HBA : Hid (Below w4.heap.size w4 ((wr.alloc (.cells #[.int .u32 (rk.at_ : Int), .int .i64 rk.len, .int .i64 3, .int .i64 rk.nxt] 46)).alloc (.cells #[.int .u32 (rk.at_ : Int), .int .i64 rk.len, .int .i64 3, .int .i64 rk.nxt] 46))) := (HBr.out.alloc hsz _).alloc (by simp only [World.size_alloc]; omega) _
      have HOA : Hid (OwnR 46 w4.heap.size u9 RK ((wr.alloc (.cells #[.int .u32 (rk.at_ : Int), .int .i64 rk.len, .int .i64 3, .int .i64 rk.nxt] 46)).alloc (.cells #[.int .u32 (rk.at_ : Int), .int .i64 rk.len, .int .i64 3, .int .i64 rk.nxt] 46))) := (HO.out.bel ((Below.refl _ _).alloc (Nat.le_refl _) _)).bel ((Below.refl _ _).alloc (Nat.le_refl _) _)
      have HNW : Hid (Has ((wr.alloc (.cells #[.int .u32 (rk.at_ : Int), .int .i64 rk.len, .int .i64 3, .int .i64 rk.nxt] 46)).alloc (.cells #[.int .u32 (rk.at_ : Int), .int .i64 rk.len, .int .i64 3, .int .i64 rk.nxt] 46)) (some ⟨wr.heap.size + 1, 0, none⟩) (rcells [dropR rk])) := by
        have h := Has.new (wr.alloc (.cells #[.int .u32 (rk.at_ : Int), .int .i64 rk.len, .int .i64 3, .int .i64 rk.nxt] 46)) (rcells [dropR rk]) 46 (0, 0)
        rw [World.size_alloc] at h
        exact h
      clear HO
      go_wp2_with (first
        | (at_builtin; refine wpList_append4 _ rfl (.tmp 45) (.tmp 47) _ rfl w4.heap.size 46 i0 (.agg #[.int .u32 0, .int .i64 0, .int .i64 0, .int .i64 0]) 32 Try.underlying42 hi0 hz0 hz1 hz2 rfl u9 RK.length (rcells RK) rfl HOA.out _ 1 _ (rcells [dropR rk]) rfl rfl HNW.out (rcells_one _) (by unfold maxLen; omega) (by omega) (by simp only [World.size_alloc]; omega) ?_; intro v7 w7 hown4 hgrow4 _; have HO4 := Lib.hid hown4; have HG4 := Lib.hid hgrow4; clear hown4 hgrow4))
      have HB4 : Hid (Below w4.heap.size w4 w7) := HBA.out.grown HG4.out HBA.out.size (fun q hq => (HOA.out.lt q hq).1)
      have HN : Hid (OwnR 46 w4.heap.size v7 ((l1.take (k + 1)).map dropR) w7) := by
        have h := HO4.out
        rw [← rcells_append, ← HS.out] at h
        exact OwnR.mk h (Nat.le_refl _)
      clear HO4 HG4 HBA HOA HNW HS
      go_wp2_with fail
      go_roundw
      case rel => exact ⟨k + 1, by omega, by omega, by go_num, HN, HB4⟩
      case measure => simp [intOf]; omega
    · have hd : Hid ((l1.take k).map dropR = (l1.take 20).map dropR) := by
        show _ = _
        rcases (by omega : k = n1 ∨ k = 20) with h | h
        · rw [List.take_of_length_le (by rw [HL1.out]; omega), List.take_of_length_le (by rw [HL1.out]; omega)]
        · rw [h]
      have hll : ((l1.take 20).map dropR).length ≤ 20 := by rw [List.length_map, List.length_take]; omega
      have HM : Hid (∀ a v, stN (T ++ [(l1.take 20).map dropR]) a v = stN T a v) := fun a v => st_more a v
      have HMW : Hid (∀ (a : Nat) (v k : Int), v < (T.length : Int) → wkN (T ++ [(l1.take 20).map dropR]) a v k = wkN T a v k) := fun a v k h => wk_more a h
      have HML : Hid (lpN (T ++ [(l1.take 20).map dropR]) a = lpN T a) := lp_more HIN2.out
      have HLAT : Hid (∀ r ∈ (l1.take 20).map dropR, r.at_ ≤ 4294967295) := fun r hr => by
        obtain ⟨x, hx, rfl⟩ := List.mem_map.1 hr
        exact HLW.out x (List.mem_of_mem_take hx)
      rw [hd.out] at HO
      clear hd VQF HIN2 HIN
      obtain ⟨L, hL⟩ : ∃ L, (l1.take 20).map dropR = L := ⟨_, rfl⟩
      rw [hL] at HO hll HM HMW HML HLAT
      clear hL
      have hb := HBr.out
      have HB1 := Lib.hid (HB4.out.trans (hb.mono HB4.out.size))
      replace VT := Lib.hid (VT.out.bel hb)
      replace KB := Lib.hid (KB.out.bel hb)
      clear hb HBr HB4 VQ
      obtain ⟨AL, cL, rfl, _, _, _⟩ := HO.out.isr.slice
      obtain ⟨nL, hnL⟩ : ∃ n, L.length = n := ⟨_, rfl⟩
      have HNL := Lib.hid hnL
      rw [hnL] at hll
      have VL := Lib.hid HO.out.isr
      rw [hnL] at VL
      simp only [hnL]
      clear hnL HO
      have hnL2 : (nL : Int) ≤ 20 := by omega
      generalize wr = wa at *
      go_upto_region 5 with fail
      go_cut [37] (fun t wx => t = .bool false ∧ wx = wa)
      case first =>
        rcases (by omega : k = n1 ∨ (k < n1 ∧ k = 20)) with h | ⟨h1, h2⟩
        · have hd : ¬ (k : Int) < (n1 : Int) := by omega
          have hd1 : decide ((k : Int) < (n1 : Int)) = false := decide_eq_false hd
          clear h
          go_wp2_with fail
          go_meet
          exact ⟨rfl, rfl⟩
        · have hd : (k : Int) < (n1 : Int) := by omega
          have hd2 : ¬ (k : Int) < 20 := by omega
          have hd1 : decide ((k : Int) < (n1 : Int)) = true := decide_eq_true hd
          have hd3 : decide ((k : Int) < 20) = false := decide_eq_false hd2
          clear h1 h2
          go_wp2_with fail
          go_meet
          exact ⟨rfl, rfl⟩
      case rest =>
        obtain ⟨rfl, hw⟩ := hcut
        rw [hw]
        clear hw wc
        clear hk1 hk20 hend
        obtain ⟨vs, hvl, hvh, hvr, hv1⟩ := rowsOf_isS (isN_isS VT.out)
        obtain ⟨j0, hj0, jz0, jz1, jz2⟩ := info_parts HII.out
        have HVH : Hid (Has (wa.alloc (.cells #[] 42)) AT vs) := hvh.alloc _
        have HVR := Lib.hid hvr
        have HVL := Lib.hid hvl
        have HV1 := Lib.hid hv1
        have ol : Hid ((wa.alloc (.cells #[] 42)).ownsRow wa.heap.size 42 1 (.slice (some ⟨wa.heap.size, 0, none⟩) 0 0) 0 []) := World.ownsRow_lit (e := 42) (size := 1) wa #[] 0 (Nat.le_refl _) (by decide) rfl
        have q0 := (KB.out.bel ((Below.refl _ _).alloc (Nat.le_refl _) (.cells #[] 42))).cell 0 rfl
        clear hvl hvh hvr hv1
        go_upto_region 11 with (first
          | (at_builtin; refine wpList_append_has _ rfl (.tmp 49) (.tmp 51) _ rfl wa.heap.size 42 j0 (.slice none 0 0) 24 Try.underlying22 hj0 jz0 jz1 jz2 rfl _ 0 [] rfl ol.out AT NT _ vs rfl HVL.out HVH.out HV1.out (by unfold maxLen; omega) (by omega) (by simp only [World.size_alloc]; omega) ?_; intro v4 w4 hown4 hgrow4 _; have HO4 := Lib.hid hown4; have HG4 := Lib.hid hgrow4; have HB4 : Hid (Below wa.heap.size wa w4) := ((Below.refl wa.heap.size wa).alloc (Nat.le_refl _) (.cells #[] 42)).grown hgrow4 (by simp only [World.size_alloc]; omega) (fun q hq => (ol.out.lt q hq).1); clear hown4 hgrow4)
          | (at_builtin; refine wpList_append_has _ rfl (.tmp 52) (.tmp 54) _ rfl wa.heap.size 42 j0 (.slice none 0 0) 24 Try.underlying22 hj0 jz0 jz1 jz2 rfl v4 (0 + NT) ([] ++ vs) rfl (own_bel HO4.out ((Below.refl _ _).alloc (Nat.le_refl _) (.cells #[.slice AL nL cL] 42))) _ 1 _ [.slice AL nL cL] rfl rfl (Has.new w4 [.slice AL nL cL] 42 (0, 0)) (by simp [Value.oneCell']) (by unfold maxLen; omega) (by omega) (by have := HB4.out.size; simp only [World.size_alloc]; omega) ?_; intro v5 w5 hown5 hgrow5 _; obtain ⟨b5, c5, hv5, _, _⟩ := World.ownsRow.form hown5 (by omega); subst hv5; have HO5 := Lib.hid hown5; have HB5 : Hid (Below wa.heap.size wa w5) := (HB4.out.alloc HB4.out.size (.cells #[.slice AL nL cL] 42)).grown hgrow5 (by have := HB4.out.size; simp only [World.size_alloc]; omega) (fun q hq => (HO4.out.lt q hq).1); clear hown5 hgrow5))
        have HX5 : Hid (IsN w5 (.agg #[.slice (some ⟨b5, 0, none⟩) (0 + NT + 1) c5]) (T ++ [L])) := by
          have h := HO5.out
          rw [List.nil_append] at h
          exact ((HVR.out.snoc (by have h2 := VL.out; exact h2)).isS h HB5.out).mk
        have hb := HB5.out
        clear HO4 HG4 HB4 HO5 ol HVH q0
        have HB2 := Lib.hid (HB1.out.trans (hb.mono HB1.out.size))
        replace VT := Lib.hid (VT.out.bel hb)
        replace KB := Lib.hid (KB.out.bel hb)
        replace VL := Lib.hid (VL.out.bel hb)
        clear hb HB1 HB5
        have VX := HX5
        clear HX5
        rw [show 0 + NT + 1 = NT + 1 by omega] at VX
        obtain ⟨NX, hNX⟩ : ∃ n, NT + 1 = n := ⟨_, rfl⟩
        rw [hNX] at VX ⊢
        obtain ⟨AX, hAX⟩ : ∃ A : Option Addr, some ⟨b5, 0, none⟩ = A := ⟨_, rfl⟩
        rw [hAX] at VX ⊢
        obtain ⟨cX, hcX⟩ : ∃ n, c5 = n := ⟨_, rfl⟩
        rw [hcX] at VX ⊢
        clear hNX hAX hcX
        have hXw : WfN (T ++ [L]) := fun l hl r hr => by
          rcases List.mem_append.1 hl with hl | hl
          · exact HTW.out l hl r hr
          · rw [List.mem_singleton.1 hl] at hr
            exact HLAT.out r hr
        have hsx : szN (T ++ [L]) = szN T + nL := by rw [szN_append]; simp [szN, HNL.out]
        have hst : szN T ≤ 1000000 := by
          have h := szN_bound HTL.out
          have h2 : T.length * 20 ≤ 8 * 20 := Nat.mul_le_mul_right 20 (by rw [HNT.out]; omega)
          omega
        have hst2 : szN T ≤ 160 := by
          have h := szN_bound HTL.out
          have h2 : T.length * 20 ≤ 8 * 20 := Nat.mul_le_mul_right 20 (by rw [HNT.out]; omega)
          omega
        have CL := Lib.hid (fun v w hv => nloop_any v T a w hv ha HTW.out (by rw [HNT.out]; omega))
        have CLX := Lib.hid (fun v w hv => nloop_any v (T ++ [L]) a w hv ha hXw (by rw [List.length_append, HNT.out]; simp; omega))
        rw [HML.out] at CLX
        have CS := Lib.hid (fun v w u hv => nstep_any v T a u w hv ha HTW.out)
        have CSX := Lib.hid (fun v w u hv => nstep_any v (T ++ [L]) a u w hv ha hXw)
        have CW := Lib.hid (fun v w u hv => nwalk_any v T a u 5 w hv ha HTW.out)
        have CWX := Lib.hid (fun v w u hv => nwalk_any v (T ++ [L]) a u 5 w hv ha hXw)
        have CZ := Lib.hid (fun v w hv => nsize_any v T w hv hst)
        have CZX := Lib.hid (fun v w hv => nsize_any v (T ++ [L]) w hv (by rw [hsx]; omega))
        rw [hsx] at CZX
        generalize hsz : szN T = sT at *
        clear hsz hsx hXw HLAT
        obtain ⟨w3, hW⟩ : ∃ W, w5.alloc (.cells #[.slice AX NX cX] 24) = W := ⟨_, rfl⟩
        obtain ⟨D, hG⟩ : ∃ G, w5.heap.size = G := ⟨_, rfl⟩
        rw [hW, hG]
        have hb : Below w5.heap.size w5 w3 := by subst hW; exact (Below.refl _ _).alloc (Nat.le_refl _) _
        have HB3 := Lib.hid (HB2.out.trans (hb.mono HB2.out.size))
        have LD : Hid (w.heap.size ≤ D) := by subst hG; exact HB2.out.size
        have NBD : Hid (B < D) := by subst hG; exact KB.out.size
        replace VT := Lib.hid (VT.out.bel hb)
        replace KB := Lib.hid (KB.out.bel hb)
        replace VL := Lib.hid (VL.out.bel hb)
        replace VX := Lib.hid (VX.out.bel hb)
        have KD : Hid (Blk D #[.slice AX NX cX] 24 w3) := by subst hW hG; exact Blk.new _ _ _
        clear hb hW hG HB2
        have qB0 := KB.out.cell 0 rfl
        go_wp2_with fail
        refine (CL.out _ w3 VT.out).mono ?_
        rintro e1 w4 ⟨lv, rfl, hl, hb⟩
        clear qB0
        have HB4 := Lib.hid (HB3.out.trans (hb.mono HB3.out.size))
        replace VT := Lib.hid (VT.out.bel hb)
        replace KB := Lib.hid (KB.out.bel hb)
        replace VL := Lib.hid (VL.out.bel hb)
        replace VX := Lib.hid (VX.out.bel hb)
        replace KD := Lib.hid (KD.out.bel hb)
        have VA := Lib.hid (hl)
        clear hb HB3
        clear hl CL
        have qD0 := KD.out.cell 0 rfl
        go_wp2_with fail
        refine (CLX.out _ w4 VX.out).mono ?_
        rintro e1 w5 ⟨mv, rfl, hl, hb⟩
        clear qD0
        have HB5 := Lib.hid (HB4.out.trans (hb.mono HB4.out.size))
        replace VT := Lib.hid (VT.out.bel hb)
        replace KB := Lib.hid (KB.out.bel hb)
        replace VL := Lib.hid (VL.out.bel hb)
        replace VX := Lib.hid (VX.out.bel hb)
        replace KD := Lib.hid (KD.out.bel hb)
        replace VA := Lib.hid (VA.out.bel hb)
        have VB := Lib.hid (hl)
        clear hb HB4
        clear hl CLX HML
        generalize (lpN T a).getD [] = lp at *
        generalize (lpN T a).isSome = ok at *
        have tok : (ok == ok) = true := by simp
        go_wp2_with fail
        go_loopw [17] (fun i wr => ∃ v : Nat, v ≤ NT ∧ i = .int .i64 v ∧ Hid (Below w5.heap.size w5 wr)) (fun i _ => NT - (intOf i).toNat)
        case atStart => exact ⟨0, by omega, rfl, Below.refl _ _⟩
        case round =>
          obtain ⟨v, hv, rfl, HBr⟩ := hrel
          by_cases hlt : v < NT
          · have hvi : (v : Int) < (NT : Int) := by omega
            have C1 := Lib.hid (fun w hv => CS.out (.agg #[.slice AT NT cT]) w (v : Int) hv)
            have C2 := Lib.hid (fun w hv => CSX.out (.agg #[.slice AX NX cX]) w (v : Int) hv)
            have C3 := Lib.hid (fun w hv => CW.out (.agg #[.slice AT NT cT]) w (v : Int) hv)
            have C4 := Lib.hid (fun w hv => CWX.out (.agg #[.slice AX NX cX]) w (v : Int) hv)
            rw [HM.out] at C2
            rw [HMW.out a (v : Int) 5 (by rw [HNT.out]; exact hvi)] at C4
            generalize resO (stN T a (v : Int)) = o at *
            generalize resO (wkN T a (v : Int) 5) = p at *
            obtain ⟨s1, s2⟩ := o
            obtain ⟨y1, y2⟩ := p
            have t1 : (s1 != s1) = false := by simp
            have t2 : (s2 != s2) = false := by simp
            have t3 : (y1 != y1) = false := by simp
            have t4 : (y2 != y2) = false := by simp
            have q0 := (KB.out.bel HBr.out).cell 0 rfl
            go_wp2_with fail
            refine (C1.out wr (VT.out.bel HBr.out)).mono ?_
            rintro e1 y1 ⟨rfl, hb⟩
            have HBr1 := Lib.hid (HBr.out.trans (hb.mono HBr.out.size))
            clear hb q0
            have q0 := (KD.out.bel HBr1.out).cell 0 rfl
            go_wp2_with fail
            refine (C2.out y1 (VX.out.bel HBr1.out)).mono ?_
            rintro e1 y2 ⟨rfl, hb⟩
            have HBr2 := Lib.hid (HBr1.out.trans (hb.mono HBr1.out.size))
            clear hb q0
            have q0 := (KB.out.bel HBr2.out).cell 0 rfl
            go_wp2_with fail
            refine (C3.out y2 (VT.out.bel HBr2.out)).mono ?_
            rintro e1 y3 ⟨rfl, hb⟩
            have HBr3 := Lib.hid (HBr2.out.trans (hb.mono HBr2.out.size))
            clear hb q0
            have q0 := (KD.out.bel HBr3.out).cell 0 rfl
            go_wp2_with fail
            refine (C4.out y3 (VX.out.bel HBr3.out)).mono ?_
            rintro e1 y4 ⟨rfl, hb⟩
            have HBr4 := Lib.hid (HBr3.out.trans (hb.mono HBr3.out.size))
            clear hb q0
            have q0 := (KB.out.bel HBr4.out).cell 0 rfl
            go_wp2_with fail
            go_roundw
            case rel => exact ⟨v + 1, by omega, by go_num, HBr4⟩
            case measure => simp [intOf]; omega
          · obtain rfl : v = NT := by omega
            have hb := HBr.out
            replace HB5 := Lib.hid (HB5.out.trans (hb.mono HB5.out.size))
            replace VT := Lib.hid (VT.out.bel hb)
            replace KB := Lib.hid (KB.out.bel hb)
            replace KD := Lib.hid (KD.out.bel hb)
            replace VX := Lib.hid (VX.out.bel hb)
            replace VA := Lib.hid (VA.out.bel hb)
            replace VB := Lib.hid (VB.out.bel hb)
            clear hb HBr CS CSX CW CWX HM HMW
            have CR : Hid (∀ wx, Below wr.heap.size wr wx → Calls Try.prog 18 #[lv, mv] wx fun e w' => e = .returned (.bool true) ∧ Below wx.heap.size wx w') := fun wx hx => by
              have h := rrow_any lv mv lp lp wx (VA.out.bel hx) (VB.out.bel hx)
              rw [decide_eq_true (rfl : lp = lp)] at h
              exact h
            have HQ : Hid (∀ wx, Below wr.heap.size wr wx → wx.cell? ⟨B, 0, none⟩ = some (.slice AT v cT) ∧ wx.cell? ⟨D, 0, none⟩ = some (.slice AX NX cX)) := fun wx hx => ⟨(KB.out.bel hx).cell 0 rfl, (KD.out.bel hx).cell 0 rfl⟩
            have HD := Lib.hid (Below.refl wr.heap.size wr).drew
            have hws : IntKind.i64.wrap ((sT : Int) + (nL : Int)) = ((sT + nL : Nat) : Int) := by rw [IntKind.wrap_i64]; omega
            have ts : (((sT + nL : Nat) : Int) == ((sT + nL : Nat) : Int)) = true := by simp
            obtain ⟨q0, q1⟩ := HQ.out wr (Below.refl _ _)
            go_upto_region 22 with fail
            go_region_held3 (fun w' => w'.cell? ⟨B, 0, none⟩ = some (.slice AT v cT) ∧ w'.cell? ⟨D, 0, none⟩ = some (.slice AX NX cX))
              (first | go_keep | exact HQ.out _ HD.out | exact HQ.out _ D1.out | exact HQ.out _ D2.out | exact HQ.out _ D3.out)
              (first
                | (go_simp; go_at_call 18; (with_reducible refine (CR.out _ HD.out).mono ?_); rintro e8 w8 ⟨rfl, hb8⟩; have D1 := Lib.hid (HD.out.trans (hb8.mono HD.out.size)); clear hb8)
                | (go_simp; go_at_call 16; (with_reducible refine (CZX.out _ _ (VX.out.bel D1.out)).mono ?_); rintro e8 w9 ⟨rfl, hb8⟩; have D2 := Lib.hid (D1.out.trans (hb8.mono D1.out.size)); clear hb8)
                | (go_simp; go_at_call 16; (with_reducible refine (CZ.out _ _ (VT.out.bel D2.out)).mono ?_); rintro e8 w10 ⟨rfl, hb8⟩; have D3 := Lib.hid (D2.out.trans (hb8.mono D2.out.size)); clear hb8))
            all_goals
              go_wp2_with fail
              go_ret
              exact ⟨rfl, HB5.out.trans (D3.out.mono HB5.out.size)⟩
end Go.Proofs.Ytpfpkghihpcbkaa
