/- The walk of theseuslaw08.TableHosts. -/
import Derived.Test.YtenkpoppbjgclaaL08
import Derived.Test.YtenkpoppbjgclaaRef08t
import Derived.Test.YtenkpoppbjgclaaOwnR
import Derived.Test.YtenkpoppbjgclaaTblLaws
import Derived.Deep.DeepCutAuto
import Derived.Deep.RegionHeld3
import Derived.BigQuiet
namespace Go.Proofs.Ytenkpoppbjgclaa
open Go.RowKit
set_option linter.unusedVariables false
set_option linter.unusedSimpArgs false

theorem fit9h (v : Value) (l : List Rl) (w : World) (hv : IsR w v l) (hwf : ∀ r ∈ l, r.at_ ≤ 4294967295) :
    Calls Try.prog 18 #[v, .int .i64 9] w fun e w' => ∃ r, e = .returned r ∧ w'.ownsRow w.heap.size 27 4 r (fitT 9 l).length (rcells (fitT 9 l)) ∧ Below w.heap.size w w' := rfitT_any v l 9 w hv hwf (by decide) (by decide)
theorem rest_succ (l : List Rl) (a k : Nat) (hk : k < l.length) : rest (l.take (k + 1)) a = if l[k].at_ = a ∧ l[k].len = 32 then rest (l.take k) a else rest (l.take k) a ++ [l[k]] := by
  unfold rest
  rw [List.take_succ_eq_append_getElem hk, List.filter_append]
  by_cases h : l[k].at_ = a ∧ l[k].len = 32
  · rw [if_pos h]; simp [h]
  · rw [if_neg h]; simp; omega
theorem rest_nil (l : List Rl) (a : Nat) : rest (l.take 0) a = [] := rfl
theorem rest_mem {l : List Rl} {a : Nat} {x : Rl} (h : x ∈ rest l a) : x ∈ l := (List.mem_filter.1 h).1
set_option maxRecDepth 100000 in
set_option maxHeartbeats 8000000 in
theorem walkTableHosts (a0 : Option Addr) (n0 c0 : Nat) (l0 : List Rl) (a1 a2 : Int) (w : World) (w0 : InR w a0 n0 c0 l0) (w1 : (Lit.int .u32 a1).wf = true) (w2 : (Lit.int .u32 a2).wf = true) :
    Calls Try.prog 8 #[.slice a0 n0 c0, .int .u32 a1, .int .u32 a2] w fun e w' => e = .returned (.bool true) ∧ Below w.heap.size w w' := by
  obtain ⟨hl1, hh1⟩ := bounds_u32 w1
  obtain ⟨a, rfl⟩ := Int.eq_ofNat_of_zero_le hl1
  have ha : (a : Int) ≤ 4294967295 := by omega
  clear w1 hl1 hh1
  obtain ⟨hl2, hh2⟩ := bounds_u32 w2
  obtain ⟨b, rfl⟩ := Int.eq_ofNat_of_zero_le hl2
  have hb : (b : Int) ≤ 4294967295 := by omega
  clear w2 hl2 hh2
  have w3 := w0.first 19
  have hat := w3.at_
  have VR := Lib.hid w3.isr
  obtain ⟨N, hN⟩ : ∃ N, min n0 19 = N := ⟨_, rfl⟩
  have hNm : (min (n0 : Int) 19).toNat = N := by omega
  have hn0 : (n0 : Int) ≤ 9223372036854775807 := by have := w0.cap; have := w0.max; unfold maxLen at this; omega
  have hmz : (0 : Int) ≤ min (n0 : Int) 19 := by omega
  have hmc : min (n0 : Int) 19 ≤ (c0 : Int) := by have := w0.cap; omega
  rw [hN] at VR
  have hl19 : (l0.take 19).length ≤ 19 := List.length_take_le _ _
  generalize l0.take 19 = L at *
  have FT := Lib.hid (fun w hv => fit9h (.slice a0 N c0) L w hv hat)
  have hT := fitT_tbl 9 L (by omega)
  have hTl := fitT_len 9 L
  have hTat := Tbl.at_ (m := 9) hat
  have hTl2 : (fitT 9 L).length ≤ 19 := by omega
  generalize fitT 9 L = T at *
  obtain ⟨NT, hNT⟩ : ∃ NT, T.length = NT := ⟨_, rfl⟩
  have HNT := Lib.hid hNT
  have hNT2 : (NT : Int) ≤ 19 := by omega
  have HRI := Lib.hid rule_info
  obtain ⟨R, hR⟩ : ∃ R, rest T a = R := ⟨_, rfl⟩
  obtain ⟨M, hM⟩ : ∃ M, fitT 9 (hostR a :: rest T a) = M := ⟨_, rfl⟩
  have hRat : ∀ x ∈ rest T a, x.at_ ≤ 4294967295 := fun x hx => hTat x (rest_mem hx)
  have hHat : ∀ x ∈ hostR a :: rest T a, x.at_ ≤ 4294967295 := fun x hx => by
    rcases List.mem_cons.1 hx with rfl | hx
    · show a ≤ _; omega
    · exact hRat x hx
  have hMat : ∀ x ∈ fitT 9 (hostR a :: rest T a), x.at_ ≤ 4294967295 := Tbl.at_ (m := 9) hHat
  have FM := Lib.hid (fun v w hv => fit9h v (hostR a :: rest T a) w hv hHat)
  have HRL : Hid (R.length ≤ NT) := by rw [← hR, ← hNT]; exact rest_le T a
  have HF1 : Hid (findF M a = some (hostR a)) := by rw [← hM]; exact hosts_found hT hTl2 a
  have HF2 : Hid (a ≠ b → findF M b = findF R b) := by rw [← hM, ← hR]; exact hosts_else hT hTl2 a b
  rw [hM] at FM hMat
  rw [hR] at FM hRat
  have HREST := Lib.hid hR
  have F1 := Lib.hid (fun v w hv => tfind_any v M a w hv ha hMat)
  have F2 := Lib.hid (fun v w hv => tfind_any v M b w hv hb hMat)
  have F3 := Lib.hid (fun v w hv => tfind_any v R b w hv hb hRat)
  have X1 := Lib.hid (fun v w hv => tnext_any v M a w hv ha hMat)
  have HTA := Lib.hid hTat
  have HHA : Hid (∀ k, (rest (T.take k) a).length ≤ k) := fun k => Nat.le_trans (rest_le _ a) (by rw [List.length_take]; omega)
  have hbb := hb
  clear hb
  clear hNT hat hl19 hTl hTl2 hTat hT hN w3 w0 hM hR hRat hHat hMat
  have HB0 := Lib.hid (Below.refl w.heap.size w)
  go_enter Try.func8, Try.ntmps8
  go_wp2_with fail
  refine (shown8 w).mono ?_
  rintro e1 w1 ⟨rfl, hb⟩
  have HB1 := Lib.hid (HB0.out.trans (hb.mono HB0.out.size))
  replace VR := Lib.hid (VR.out.bel hb)
  clear hb HB0
  go_wp2_with fail
  refine (FT.out w1 VR.out).mono ?_
  rintro e1 w2 ⟨tv, rfl, hown, hb⟩
  have HB2 := Lib.hid (HB1.out.trans (hb.mono HB1.out.size))
  replace VR := Lib.hid (VR.out.bel hb)
  have VT := Lib.hid (OwnR.mk hown (Nat.le_refl _))
  clear hb HB1
  clear hown FT
  clear VR
  obtain ⟨AT, cT, rfl, hTc, hTm, _⟩ := VT.out.isr.slice
  rw [HNT.out] at hTc
  have hTc2 : (NT : Int) ≤ (cT : Int) := by omega
  simp only [HNT.out] at VT ⊢
  clear hTc
  go_upto_region 4 with fail
  obtain ⟨w3, hW⟩ : ∃ W, w2.alloc (.cells #[.int .u32 (a : Int), .int .i64 32, .int .i64 2, .int .i64 0] 27) = W := ⟨_, rfl⟩
  obtain ⟨g, hG⟩ : ∃ G, w2.heap.size = G := ⟨_, rfl⟩
  rw [hW, hG]
  have hb : Below w2.heap.size w2 w3 := by subst hW; exact (Below.refl _ _).alloc (Nat.le_refl _) _
  have HB3 := Lib.hid (HB2.out.trans (hb.mono HB2.out.size))
  have Lg : Hid (w.heap.size ≤ g) := by subst hG; exact HB2.out.size
  replace VT := Lib.hid (VT.out.bel hb)
  have Kg : Hid (Blk g #[.int .u32 (a : Int), .int .i64 32, .int .i64 2, .int .i64 0] 27 w3) := by subst hW hG; exact Blk.new _ _ _
  clear hb hW hG HB2
  go_wp2_with fail
  obtain ⟨i0, hi0, hz0, hz1, hz2⟩ := info_parts HRI.out
  have ol0 : Hid (OwnR 27 w3.heap.size (.slice (some ⟨w3.heap.size, 0, none⟩) 0 0) (rest (T.take 0) a) (w3.alloc (.cells #[] 27))) := World.ownsRow_lit (e := 27) (size := 4) w3 #[] 0 (Nat.le_refl _) (by decide) rfl
  have hbl : Hid (Below w3.heap.size w3 (w3.alloc (.cells #[] 27))) := (Below.refl _ _).alloc (Nat.le_refl _) _
  have VTF : Hid (∀ wx, Below w3.heap.size w3 wx → Has wx AT (rcells T)) := fun wx hx => (VT.out.bel hx).isr.has'
  go_loopw [10, 11] (fun x i wr => ∃ k : Nat, k ≤ NT ∧ i = .int .i64 k ∧ Hid (OwnR 27 w3.heap.size x (rest (T.take k) a) wr) ∧ Hid (Below w3.heap.size w3 wr)) (fun _ i _ => NT - (intOf i).toNat)
  case atStart => exact ⟨0, by omega, rfl, ol0, hbl⟩
  case round =>
    clear ol0 hbl
    obtain ⟨k, hk, rfl, HO, HBr⟩ := hrel
    by_cases hlt : k < NT
    · have hkl : k < T.length := by rw [HNT.out]; exact hlt
      have hki : (k : Int) < (NT : Int) := by omega
      have hkz : (0 : Int) ≤ (k : Int) := by omega
      have hTT := VTF.out wr HBr.out
      obtain ⟨ad, rfl, _⟩ := hTT (by rw [rcells_length]; omega)
      obtain ⟨f0, f1, f2, f3⟩ := hTT.four k hkl
      clear hTT
      have hs := rest_succ T a k hkl
      obtain ⟨rk, hrk⟩ : ∃ r, T[k] = r := ⟨_, rfl⟩
      rw [hrk] at f0 f1 f2 f3 hs
      clear hrk
      by_cases hq : rk.at_ = a ∧ rk.len = 32
      · rw [if_pos hq] at hs
        have HN : Hid (OwnR 27 w3.heap.size u10 (rest (T.take (k + 1)) a) wr) := by rw [hs]; exact HO.out
        have t1 : ((rk.at_ : Int) != (a : Int)) = false := by rw [hq.1]; simp
        have t2 : (rk.len != 32) = false := by rw [hq.2]; rfl
        clear hs HO hq
        go_wp2_with fail
        go_roundw
        case rel => exact ⟨k + 1, by omega, by go_num, HN, HBr⟩
        case measure => simp [intOf]; omega
      · rw [if_neg hq] at hs
        have hlen : (rest (T.take k) a).length ≤ 19 := by have := HHA.out k; omega
        have hor : ((rk.at_ : Int) != (a : Int)) = true ∨ (((rk.at_ : Int) != (a : Int)) = false ∧ (rk.len != 32) = true) := by
          by_cases h1 : rk.at_ = a
          · right
            exact ⟨by rw [h1]; simp, by rw [bne_iff_ne]; exact fun h2 => hq ⟨h1, h2⟩⟩
          · left
            rw [bne_iff_ne]
            omega
        have HS := Lib.hid hs
        obtain ⟨RK, hRK⟩ : ∃ x, rest (T.take k) a = x := ⟨_, rfl⟩
        rw [hRK] at HO HS hlen
        clear hs hq hRK
        have HBA : Hid (Below w3.heap.size w3 (wr.alloc (.cells #[.int .u32 (rk.at_ : Int), .int .i64 rk.len, .int .i64 rk.act, .int .i64 rk.nxt] 27))) := HBr.out.alloc HBr.out.size _
        have HOA : Hid (OwnR 27 w3.heap.size u10 RK (wr.alloc (.cells #[.int .u32 (rk.at_ : Int), .int .i64 rk.len, .int .i64 rk.act, .int .i64 rk.nxt] 27))) := HO.out.bel ((Below.refl _ _).alloc (Nat.le_refl _) _)
        have HNW : Hid (Has (wr.alloc (.cells #[.int .u32 (rk.at_ : Int), .int .i64 rk.len, .int .i64 rk.act, .int .i64 rk.nxt] 27)) (some ⟨wr.heap.size, 0, none⟩) (rcells [rk])) := Has.new wr (rcells [rk]) 27 (0, 0)
        have hsz : w3.heap.size ≤ wr.heap.size := HBr.out.size
        clear HO
        rcases hor with t1 | ⟨t1, t2⟩
        all_goals
          go_wp2_with (first
            | (at_builtin; refine wpList_append4 _ rfl (.tmp 52) (.tmp 57) _ rfl w3.heap.size 27 i0 (.agg #[.int .u32 0, .int .i64 0, .int .i64 0, .int .i64 0]) 32 Try.underlying22 hi0 hz0 hz1 hz2 rfl u10 RK.length (rcells RK) rfl HOA.out _ 1 _ (rcells [rk]) rfl rfl HNW.out (rcells_one _) (by unfold maxLen; omega) (by omega) (by simp only [World.size_alloc]; omega) ?_; intro v4 w4 hown4 hgrow4 _; have HO4 := Lib.hid hown4; have HG4 := Lib.hid hgrow4; clear hown4 hgrow4))
          have HB4 : Hid (Below w3.heap.size w3 w4) := HBA.out.grown HG4.out HBA.out.size (fun q hq => (HOA.out.lt q hq).1)
          have HN : Hid (OwnR 27 w3.heap.size v4 (rest (T.take (k + 1)) a) w4) := by
            have h := HO4.out
            rw [← rcells_append, ← HS.out] at h
            exact OwnR.mk h (Nat.le_refl _)
          clear HO4 HG4 HBA HOA HNW HS
          go_wp2_with fail
          go_roundw
          case rel => exact ⟨k + 1, by omega, by go_num, HN, HB4⟩
          case measure => simp [intOf]; omega
    · obtain rfl : k = NT := by omega
      have hall : T.take k = T := List.take_of_length_le (by rw [HNT.out]; exact Nat.le_refl _)
      rw [hall, HREST.out] at HO
      clear hall hlt hk VTF
      have hb := HBr.out
      have HB4 := Lib.hid (HB3.out.trans (hb.mono HB3.out.size))
      clear VT
      replace Kg := Lib.hid (Kg.out.bel hb)
      have VO : Hid (IsR wr u10 R) := HO.out.isr
      clear HB3 hb HBr HO
      obtain ⟨AR, cR, rfl, hRc, hRm, hRA⟩ := VO.out.slice
      obtain ⟨NR, hNR⟩ : ∃ n, R.length = n := ⟨_, rfl⟩
      have HNR := Lib.hid hNR
      have hNR2 : (NR : Int) ≤ 19 := by have := HRL.out; omega
      simp only [hNR] at VO ⊢
      clear hNR hRc hRm hRA
      have qg0 := Kg.out.cell 0 rfl
      have qg1 := Kg.out.cell 1 rfl
      have qg2 := Kg.out.cell 2 rfl
      have qg3 := Kg.out.cell 3 rfl
      have ol1 : Hid ((wr.alloc (.cells #[.int .u32 (a : Int), .int .i64 32, .int .i64 2, .int .i64 0] 27)).ownsRow wr.heap.size 27 4 (.slice (some ⟨wr.heap.size, 0, none⟩) 1 1) 1 (rcells [hostR a])) := World.ownsRow_lit (e := 27) (size := 4) wr #[.int .u32 (a : Int), .int .i64 32, .int .i64 2, .int .i64 0] 1 (Nat.le_refl _) (by decide) rfl
      have HRH : Hid (Has (wr.alloc (.cells #[.int .u32 (a : Int), .int .i64 32, .int .i64 2, .int .i64 0] 27)) AR (rcells R)) := VO.out.has'.bel ((Below.refl _ _).alloc (Nat.le_refl _) _)
      have HRL2 : Hid ((rcells R).length = NR * 4) := by show _ = _; rw [rcells_length, HNR.out]
      go_wp2_with (first
        | (at_builtin; refine wpList_append4 _ rfl (.tmp 60) (.tmp 61) _ rfl wr.heap.size 27 i0 (.agg #[.int .u32 0, .int .i64 0, .int .i64 0, .int .i64 0]) 32 Try.underlying22 hi0 hz0 hz1 hz2 rfl _ 1 (rcells [hostR a]) rfl ol1.out AR NR _ (rcells R) rfl HRL2.out HRH.out (rcells_one _) (by unfold maxLen; omega) (by omega) (by simp only [World.size_alloc]; omega) ?_; intro v4 w4 hown4 hgrow4 _; have HO4 := Lib.hid hown4; have HG4 := Lib.hid hgrow4; clear hown4 hgrow4))
      have hb : Below wr.heap.size wr w4 := ((Below.refl wr.heap.size wr).alloc (Nat.le_refl _) (.cells #[.int .u32 (a : Int), .int .i64 32, .int .i64 2, .int .i64 0] 27)).grown HG4.out (by simp only [World.size_alloc]; omega) (fun q hq => (ol1.out.lt q hq).1)
      have HV4 : Hid (IsR w4 v4 (hostR a :: R)) := by
        have h := HO4.out
        rw [← rcells_append] at h
        exact IsR.of_own h
      clear qg0 qg1 qg2 qg3
      have HB5 := Lib.hid (HB4.out.trans (hb.mono HB4.out.size))
      replace Kg := Lib.hid (Kg.out.bel hb)
      replace VO := Lib.hid (VO.out.bel hb)
      clear HB4 hb HO4 HG4 ol1 HRH HRL2
      go_wp2_with fail
      refine (FM.out _ w4 HV4.out).mono ?_
      rintro e1 w6 ⟨mv, rfl, hown, hb⟩
      have HB6 := Lib.hid (HB5.out.trans (hb.mono HB5.out.size))
      replace Kg := Lib.hid (Kg.out.bel hb)
      replace VO := Lib.hid (VO.out.bel hb)
      have VM := Lib.hid (OwnR.mk hown (Nat.le_refl _))
      clear hb HB5
      clear hown FM HV4
      obtain ⟨AM, cM, rfl, _, _, _⟩ := VM.out.isr.slice
      obtain ⟨NM, hNM⟩ : ∃ n, M.length = n := ⟨_, rfl⟩
      simp only [hNM] at VM ⊢
      clear hNM
      have F1x : Hid (∀ v w, IsR w v M → Calls Try.prog 12 #[v, .int .u32 (a : Int)] w fun e w' => e = .returned (.tuple #[.agg #[.int .u32 (a : Int), .int .i64 32, .int .i64 2, .int .i64 0], .bool true]) ∧ Below w.heap.size w w') := fun v w hv => by
        have h := F1.out v w hv
        rw [HF1.out] at h
        exact h
      clear F1
      have F1 := F1x
      clear F1x
      have X1x : Hid (∀ v w, IsR w v M → Calls Try.prog 14 #[v, .int .u32 (a : Int)] w fun e w' => e = .returned (.tuple #[.int .i64 0, .bool false]) ∧ Below w.heap.size w w') := fun v w hv => by
        have h := X1.out v w hv
        rw [HF1.out] at h
        exact h
      clear X1
      have X1 := X1x
      clear X1x
      have t0 : ((a : Int) == (a : Int)) = true := by simp
      by_cases hab : a = b
      · have t1 : ((a : Int) == (b : Int)) = true := by rw [hab]; simp
        clear hab HF2
        obtain ⟨s, hs⟩ : ∃ s, foundR (findF M b) = s := ⟨_, rfl⟩
        obtain ⟨o, ho⟩ : ∃ o, (findF M b).isSome = o := ⟨_, rfl⟩
        obtain ⟨t, ht⟩ : ∃ s, foundR (findF R b) = s := ⟨_, rfl⟩
        obtain ⟨p, hp⟩ : ∃ o, (findF R b).isSome = o := ⟨_, rfl⟩
        rw [hs, ho] at F2
        rw [ht, hp] at F3
        clear hs ho ht hp
        go_wp2_with fail
        refine (F1.out _ w6 VM.out.isr).mono ?_
        rintro e1 w7 ⟨rfl, hb⟩
        have HB7 := Lib.hid (HB6.out.trans (hb.mono HB6.out.size))
        replace Kg := Lib.hid (Kg.out.bel hb)
        replace VO := Lib.hid (VO.out.bel hb)
        replace VM := Lib.hid (VM.out.bel hb)
        clear hb HB6
        go_upto_region 12 with fail
        obtain ⟨w8, hW⟩ : ∃ W, w7.alloc (.cells #[.int .u32 (a : Int), .int .i64 32, .int .i64 2, .int .i64 0] 27) = W := ⟨_, rfl⟩
        obtain ⟨S, hG⟩ : ∃ G, w7.heap.size = G := ⟨_, rfl⟩
        rw [hW, hG]
        have hb : Below w7.heap.size w7 w8 := by subst hW; exact (Below.refl _ _).alloc (Nat.le_refl _) _
        have HB8 := Lib.hid (HB7.out.trans (hb.mono HB7.out.size))
        have LS : Hid (w.heap.size ≤ S) := by subst hG; exact HB7.out.size
        have NgS : Hid (g < S) := by subst hG; exact Kg.out.size
        replace Kg := Lib.hid (Kg.out.bel hb)
        replace VO := Lib.hid (VO.out.bel hb)
        replace VM := Lib.hid (VM.out.bel hb)
        have KS : Hid (Blk S #[.int .u32 (a : Int), .int .i64 32, .int .i64 2, .int .i64 0] 27 w8) := by subst hW hG; exact Blk.new _ _ _
        clear hb hW hG HB7
        go_wp2_with fail
        refine (F2.out _ w8 VM.out.isr).mono ?_
        rintro e1 w9 ⟨rfl, hb⟩
        have HB9 := Lib.hid (HB8.out.trans (hb.mono HB8.out.size))
        replace Kg := Lib.hid (Kg.out.bel hb)
        replace VO := Lib.hid (VO.out.bel hb)
        replace VM := Lib.hid (VM.out.bel hb)
        replace KS := Lib.hid (KS.out.bel hb)
        clear hb HB8
        go_upto_region 13 with fail
        obtain ⟨w10, hW⟩ : ∃ W, w9.alloc (.cells #[.int .u32 (s.at_ : Int), .int .i64 s.len, .int .i64 s.act, .int .i64 s.nxt] 27) = W := ⟨_, rfl⟩
        obtain ⟨U, hG⟩ : ∃ G, w9.heap.size = G := ⟨_, rfl⟩
        rw [hW, hG]
        have hb : Below w9.heap.size w9 w10 := by subst hW; exact (Below.refl _ _).alloc (Nat.le_refl _) _
        have HB10 := Lib.hid (HB9.out.trans (hb.mono HB9.out.size))
        have LU : Hid (w.heap.size ≤ U) := by subst hG; exact HB9.out.size
        have NgU : Hid (g < U) := by subst hG; exact Kg.out.size
        have NSU : Hid (S < U) := by subst hG; exact KS.out.size
        replace Kg := Lib.hid (Kg.out.bel hb)
        replace VO := Lib.hid (VO.out.bel hb)
        replace VM := Lib.hid (VM.out.bel hb)
        replace KS := Lib.hid (KS.out.bel hb)
        have KU : Hid (Blk U #[.int .u32 (s.at_ : Int), .int .i64 s.len, .int .i64 s.act, .int .i64 s.nxt] 27 w10) := by subst hW hG; exact Blk.new _ _ _
        clear hb hW hG HB9
        go_wp2_with fail
        refine (F3.out _ w10 VO.out).mono ?_
        rintro e1 w11 ⟨rfl, hb⟩
        have HB11 := Lib.hid (HB10.out.trans (hb.mono HB10.out.size))
        replace Kg := Lib.hid (Kg.out.bel hb)
        replace VO := Lib.hid (VO.out.bel hb)
        replace VM := Lib.hid (VM.out.bel hb)
        replace KS := Lib.hid (KS.out.bel hb)
        replace KU := Lib.hid (KU.out.bel hb)
        clear hb HB10
        go_upto_region 14 with fail
        obtain ⟨w12, hW⟩ : ∃ W, w11.alloc (.cells #[.int .u32 (t.at_ : Int), .int .i64 t.len, .int .i64 t.act, .int .i64 t.nxt] 27) = W := ⟨_, rfl⟩
        obtain ⟨Q, hG⟩ : ∃ G, w11.heap.size = G := ⟨_, rfl⟩
        rw [hW, hG]
        have hb : Below w11.heap.size w11 w12 := by subst hW; exact (Below.refl _ _).alloc (Nat.le_refl _) _
        have HB12 := Lib.hid (HB11.out.trans (hb.mono HB11.out.size))
        have LQ : Hid (w.heap.size ≤ Q) := by subst hG; exact HB11.out.size
        have NgQ : Hid (g < Q) := by subst hG; exact Kg.out.size
        have NSQ : Hid (S < Q) := by subst hG; exact KS.out.size
        have NUQ : Hid (U < Q) := by subst hG; exact KU.out.size
        replace Kg := Lib.hid (Kg.out.bel hb)
        replace VO := Lib.hid (VO.out.bel hb)
        replace VM := Lib.hid (VM.out.bel hb)
        replace KS := Lib.hid (KS.out.bel hb)
        replace KU := Lib.hid (KU.out.bel hb)
        have KQ : Hid (Blk Q #[.int .u32 (t.at_ : Int), .int .i64 t.len, .int .i64 t.act, .int .i64 t.nxt] 27 w12) := by subst hW hG; exact Blk.new _ _ _
        clear hb hW hG HB11
        go_wp2_with fail
        refine (X1.out _ w12 VM.out.isr).mono ?_
        rintro e1 w13 ⟨rfl, hb⟩
        have HB13 := Lib.hid (HB12.out.trans (hb.mono HB12.out.size))
        replace Kg := Lib.hid (Kg.out.bel hb)
        replace VO := Lib.hid (VO.out.bel hb)
        replace VM := Lib.hid (VM.out.bel hb)
        replace KS := Lib.hid (KS.out.bel hb)
        replace KU := Lib.hid (KU.out.bel hb)
        replace KQ := Lib.hid (KQ.out.bel hb)
        clear hb HB12
        have qg0 := Kg.out.cell 0 rfl
        have qg1 := Kg.out.cell 1 rfl
        have qg2 := Kg.out.cell 2 rfl
        have qg3 := Kg.out.cell 3 rfl
        have qS0 := KS.out.cell 0 rfl
        have qS1 := KS.out.cell 1 rfl
        have qS2 := KS.out.cell 2 rfl
        have qS3 := KS.out.cell 3 rfl
        go_wp2_with fail
        go_ret
        exact ⟨rfl, HB13.out⟩
      · have t1 : ((a : Int) == (b : Int)) = false := by rw [beq_eq_false_iff_ne]; omega
        have he := HF2.out hab
        obtain ⟨s, hs⟩ : ∃ s, foundR (findF R b) = s := ⟨_, rfl⟩
        obtain ⟨o, ho⟩ : ∃ o, (findF R b).isSome = o := ⟨_, rfl⟩
        rw [he, hs, ho] at F2
        rw [hs, ho] at F3
        have t5 : (o == o) = true := by simp
        have t6 : ((s.at_ : Int) == (s.at_ : Int)) = true := by simp
        have t7 : (s.len == s.len) = true := by simp
        have t8 : (s.act == s.act) = true := by simp
        have t9 : (s.nxt == s.nxt) = true := by simp
        clear hs ho he hab HF2
        go_wp2_with fail
        refine (F1.out _ w6 VM.out.isr).mono ?_
        rintro e1 w7 ⟨rfl, hb⟩
        have HB7 := Lib.hid (HB6.out.trans (hb.mono HB6.out.size))
        replace Kg := Lib.hid (Kg.out.bel hb)
        replace VO := Lib.hid (VO.out.bel hb)
        replace VM := Lib.hid (VM.out.bel hb)
        clear hb HB6
        go_upto_region 12 with fail
        obtain ⟨w8, hW⟩ : ∃ W, w7.alloc (.cells #[.int .u32 (a : Int), .int .i64 32, .int .i64 2, .int .i64 0] 27) = W := ⟨_, rfl⟩
        obtain ⟨S, hG⟩ : ∃ G, w7.heap.size = G := ⟨_, rfl⟩
        rw [hW, hG]
        have hb : Below w7.heap.size w7 w8 := by subst hW; exact (Below.refl _ _).alloc (Nat.le_refl _) _
        have HB8 := Lib.hid (HB7.out.trans (hb.mono HB7.out.size))
        have LS : Hid (w.heap.size ≤ S) := by subst hG; exact HB7.out.size
        have NgS : Hid (g < S) := by subst hG; exact Kg.out.size
        replace Kg := Lib.hid (Kg.out.bel hb)
        replace VO := Lib.hid (VO.out.bel hb)
        replace VM := Lib.hid (VM.out.bel hb)
        have KS : Hid (Blk S #[.int .u32 (a : Int), .int .i64 32, .int .i64 2, .int .i64 0] 27 w8) := by subst hW hG; exact Blk.new _ _ _
        clear hb hW hG HB7
        go_wp2_with fail
        refine (F2.out _ w8 VM.out.isr).mono ?_
        rintro e1 w9 ⟨rfl, hb⟩
        have HB9 := Lib.hid (HB8.out.trans (hb.mono HB8.out.size))
        replace Kg := Lib.hid (Kg.out.bel hb)
        replace VO := Lib.hid (VO.out.bel hb)
        replace VM := Lib.hid (VM.out.bel hb)
        replace KS := Lib.hid (KS.out.bel hb)
        clear hb HB8
        go_upto_region 13 with fail
        obtain ⟨w10, hW⟩ : ∃ W, w9.alloc (.cells #[.int .u32 (s.at_ : Int), .int .i64 s.len, .int .i64 s.act, .int .i64 s.nxt] 27) = W := ⟨_, rfl⟩
        obtain ⟨U, hG⟩ : ∃ G, w9.heap.size = G := ⟨_, rfl⟩
        rw [hW, hG]
        have hb : Below w9.heap.size w9 w10 := by subst hW; exact (Below.refl _ _).alloc (Nat.le_refl _) _
        have HB10 := Lib.hid (HB9.out.trans (hb.mono HB9.out.size))
        have LU : Hid (w.heap.size ≤ U) := by subst hG; exact HB9.out.size
        have NgU : Hid (g < U) := by subst hG; exact Kg.out.size
        have NSU : Hid (S < U) := by subst hG; exact KS.out.size
        replace Kg := Lib.hid (Kg.out.bel hb)
        replace VO := Lib.hid (VO.out.bel hb)
        replace VM := Lib.hid (VM.out.bel hb)
        replace KS := Lib.hid (KS.out.bel hb)
        have KU : Hid (Blk U #[.int .u32 (s.at_ : Int), .int .i64 s.len, .int .i64 s.act, .int .i64 s.nxt] 27 w10) := by subst hW hG; exact Blk.new _ _ _
        clear hb hW hG HB9
        go_wp2_with fail
        refine (F3.out _ w10 VO.out).mono ?_
        rintro e1 w11 ⟨rfl, hb⟩
        have HB11 := Lib.hid (HB10.out.trans (hb.mono HB10.out.size))
        replace Kg := Lib.hid (Kg.out.bel hb)
        replace VO := Lib.hid (VO.out.bel hb)
        replace VM := Lib.hid (VM.out.bel hb)
        replace KS := Lib.hid (KS.out.bel hb)
        replace KU := Lib.hid (KU.out.bel hb)
        clear hb HB10
        go_upto_region 14 with fail
        obtain ⟨w12, hW⟩ : ∃ W, w11.alloc (.cells #[.int .u32 (s.at_ : Int), .int .i64 s.len, .int .i64 s.act, .int .i64 s.nxt] 27) = W := ⟨_, rfl⟩
        obtain ⟨Q, hG⟩ : ∃ G, w11.heap.size = G := ⟨_, rfl⟩
        rw [hW, hG]
        have hb : Below w11.heap.size w11 w12 := by subst hW; exact (Below.refl _ _).alloc (Nat.le_refl _) _
        have HB12 := Lib.hid (HB11.out.trans (hb.mono HB11.out.size))
        have LQ : Hid (w.heap.size ≤ Q) := by subst hG; exact HB11.out.size
        have NgQ : Hid (g < Q) := by subst hG; exact Kg.out.size
        have NSQ : Hid (S < Q) := by subst hG; exact KS.out.size
        have NUQ : Hid (U < Q) := by subst hG; exact KU.out.size
        replace Kg := Lib.hid (Kg.out.bel hb)
        replace VO := Lib.hid (VO.out.bel hb)
        replace VM := Lib.hid (VM.out.bel hb)
        replace KS := Lib.hid (KS.out.bel hb)
        replace KU := Lib.hid (KU.out.bel hb)
        have KQ : Hid (Blk Q #[.int .u32 (s.at_ : Int), .int .i64 s.len, .int .i64 s.act, .int .i64 s.nxt] 27 w12) := by subst hW hG; exact Blk.new _ _ _
        clear hb hW hG HB11
        go_wp2_with fail
        refine (X1.out _ w12 VM.out.isr).mono ?_
        rintro e1 w13 ⟨rfl, hb⟩
        have HB13 := Lib.hid (HB12.out.trans (hb.mono HB12.out.size))
        replace Kg := Lib.hid (Kg.out.bel hb)
        replace VO := Lib.hid (VO.out.bel hb)
        replace VM := Lib.hid (VM.out.bel hb)
        replace KS := Lib.hid (KS.out.bel hb)
        replace KU := Lib.hid (KU.out.bel hb)
        replace KQ := Lib.hid (KQ.out.bel hb)
        clear hb HB12
        have qg0 := Kg.out.cell 0 rfl
        have qg1 := Kg.out.cell 1 rfl
        have qg2 := Kg.out.cell 2 rfl
        have qg3 := Kg.out.cell 3 rfl
        have qS0 := KS.out.cell 0 rfl
        have qS1 := KS.out.cell 1 rfl
        have qS2 := KS.out.cell 2 rfl
        have qS3 := KS.out.cell 3 rfl
        have qU0 := KU.out.cell 0 rfl
        have qU1 := KU.out.cell 1 rfl
        have qU2 := KU.out.cell 2 rfl
        have qU3 := KU.out.cell 3 rfl
        have qQ0 := KQ.out.cell 0 rfl
        have qQ1 := KQ.out.cell 1 rfl
        have qQ2 := KQ.out.cell 2 rfl
        have qQ3 := KQ.out.cell 3 rfl
        go_wp2_with fail
        go_ret
        exact ⟨rfl, HB13.out⟩
end Go.Proofs.Ytenkpoppbjgclaa
