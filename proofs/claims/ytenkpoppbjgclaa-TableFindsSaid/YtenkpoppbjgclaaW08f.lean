/- The walk of theseuslaw08.TableFinds. -/
import Derived.Test.YtenkpoppbjgclaaL08
import Derived.Test.YtenkpoppbjgclaaRef08t
import Derived.Test.YtenkpoppbjgclaaRef08f
import Derived.Test.YtenkpoppbjgclaaOwnR
import Derived.Test.YtenkpoppbjgclaaTblLaws
import Derived.Test.YtenkpoppbjgclaaPfxH
import Derived.Deep.DeepCutAuto
import Derived.Deep.RegionHeld3
import Derived.BigQuiet
namespace Go.Proofs.Ytenkpoppbjgclaa
open Go.RowKit
set_option linter.unusedVariables false
set_option linter.unusedSimpArgs false

theorem ord_at {l : List Rl} (h : Ord l) {i j : Nat} (hi : i < l.length) (hj : j < l.length) (e : l[i] = l[j]) : i = j := by
  unfold Ord at h
  rw [List.pairwise_iff_getElem] at h
  rcases Nat.lt_trichotomy i j with g | g | g
  · have := h i j hi hj g
    rw [e] at this
    exact absurd (cmpR_self _) (ltR_ne this).1
  · exact g
  · have := h j i hj hi g
    rw [e] at this
    exact absurd (cmpR_self _) (ltR_ne this).1
theorem OwnR.drewN {e : TypeId} {b : Nat} {v : Value} {l : List Rl} {w : World} (h : OwnR e b v l w) (k : Nat) : OwnR e b v l (w.drewN k) := h.bel (drewN_below (Below.refl _ _) _)
set_option maxRecDepth 100000 in
set_option maxHeartbeats 8000000 in
theorem walkTableFinds (a0 : Option Addr) (n0 c0 : Nat) (l0 : List Rl) (a1 a2 : Int) (w : World) (w0 : InR w a0 n0 c0 l0) (w1 : (Lit.int .u8 a1).wf = true) (w2 : (Lit.int .u32 a2).wf = true) :
    Calls Try.prog 4 #[.slice a0 n0 c0, .int .u8 a1, .int .u32 a2] w fun e w' => e = .returned (.bool true) ∧ Below w.heap.size w w' := by
  obtain ⟨hl1, hh1⟩ := bounds_u8 w1
  obtain ⟨p, rfl⟩ := Int.eq_ofNat_of_zero_le hl1
  have hp : (p : Int) ≤ 255 := by omega
  clear w1 hl1 hh1
  obtain ⟨hl2, hh2⟩ := bounds_u32 w2
  obtain ⟨a, rfl⟩ := Int.eq_ofNat_of_zero_le hl2
  have ha : (a : Int) ≤ 4294967295 := by omega
  clear w2 hl2 hh2
  have hat := w0.at_
  have VR := Lib.hid w0.isr
  obtain ⟨m, hm⟩ : ∃ m : Nat, 1 + p = m := ⟨_, rfl⟩
  have hmw : IntKind.i64.wrap (1 + (p : Int)) = (m : Int) := by rw [IntKind.wrap_i64]; omega
  have FT := Lib.hid (fun w hv => rfitT_any (.slice a0 n0 c0) l0 m w hv hat (by omega) (by omega))
  have hT := fitT_tbl m l0 (by omega)
  have hTl := fitT_le m l0
  have hTat := Tbl.at_ (m := m) hat
  generalize fitT m l0 = T at *
  obtain ⟨NT, hNT⟩ : ∃ NT, T.length = NT := ⟨_, rfl⟩
  have HNT := Lib.hid hNT
  have hNT2 : (NT : Int) ≤ 20 := by omega
  have HTT := Lib.hid hT
  have HTA := Lib.hid hTat
  have F1 := Lib.hid (fun v w hv => tfind_any v T a w hv ha hTat)
  have X1 := Lib.hid (fun v w hv => tnext_any v T a w hv ha hTat)
  have FM : Hid (∀ v w, IsR w v T → Calls Try.prog 16 #[v, .int .i64 m] w fun e w' => e = .returned (.int .i64 0) ∧ Below w.heap.size w w') := fun v w hv => by
    have h := tmay_any v T m w hv hTat
    rw [mayT_ok.2 ⟨hT.ok, hT.ord⟩] at h
    exact h
  have CHH := Lib.hid (fun k (hk : k < T.length) w => holds_any (T[k]).at_ a (T[k]).len w (by have := hTat _ (List.getElem_mem hk); omega) ha)
  clear hNT hTl hat hT hTat w0 hm
  have HB0 := Lib.hid (Below.refl w.heap.size w)
  go_enter Try.func4, Try.ntmps4
  go_wp2_with fail
  refine (shown8 w).mono ?_
  rintro e1 w1 ⟨rfl, hb⟩
  have HB1 := Lib.hid (HB0.out.trans (hb.mono HB0.out.size))
  replace VR := Lib.hid (VR.out.bel hb)
  clear hb HB0
  go_wp2_with fail
  refine (FT.out w1 VR.out).mono ?_
  rintro e1 w2 ⟨tv, rfl, hown, hb⟩
  have HB2 := Lib.hid (HB1.out.trans (hb.mono HB1.out.size))
  replace VR := Lib.hid (VR.out.bel hb)
  have VT := Lib.hid (OwnR.mk hown (Nat.le_refl _))
  clear hb HB1
  clear hown FT
  clear VR
  obtain ⟨AT, cT, rfl, hTc, hTm, _⟩ := VT.out.isr.slice
  rw [HNT.out] at hTc
  have hTc2 : (NT : Int) ≤ (cT : Int) := by omega
  simp only [HNT.out] at VT ⊢
  clear hTc
  cases ho : findF T a with
  | none =>
    have F1x : Hid (∀ v w, IsR w v T → Calls Try.prog 12 #[v, .int .u32 (a : Int)] w fun e w' => e = .returned (.tuple #[.agg #[.int .u32 0, .int .i64 0, .int .i64 0, .int .i64 0], .bool false]) ∧ Below w.heap.size w w') := fun v w hv => by
      have h := F1.out v w hv
      rw [ho] at h
      exact h
    clear F1
    have F1 := F1x
    clear F1x
    have X1x : Hid (∀ v w, IsR w v T → Calls Try.prog 14 #[v, .int .u32 (a : Int)] w fun e w' => e = .returned (.tuple #[.int .i64 0, .bool false]) ∧ Below w.heap.size w w') := fun v w hv => by
      have h := X1.out v w hv
      rw [ho] at h
      exact h
    clear X1
    have X1 := X1x
    clear X1x
    have HO : Hid (findF T a = none) := ho
    clear ho
    go_wp2_with fail
    refine (F1.out _ w2 VT.out.isr).mono ?_
    rintro e1 w3 ⟨rfl, hb⟩
    have HB3 := Lib.hid (HB2.out.trans (hb.mono HB2.out.size))
    replace VT := Lib.hid (VT.out.bel hb)
    clear hb HB2
    go_upto_region 4 with fail
    obtain ⟨w4, hW⟩ : ∃ W, w3.alloc (.cells #[.int .u32 0, .int .i64 0, .int .i64 0, .int .i64 0] 27) = W := ⟨_, rfl⟩
    obtain ⟨S, hG⟩ : ∃ G, w3.heap.size = G := ⟨_, rfl⟩
    rw [hW, hG]
    have hb : Below w3.heap.size w3 w4 := by subst hW; exact (Below.refl _ _).alloc (Nat.le_refl _) _
    have HB4 := Lib.hid (HB3.out.trans (hb.mono HB3.out.size))
    have LS : Hid (w.heap.size ≤ S) := by subst hG; exact HB3.out.size
    replace VT := Lib.hid (VT.out.bel hb)
    have KS : Hid (Blk S #[.int .u32 0, .int .i64 0, .int .i64 0, .int .i64 0] 27 w4) := by subst hW hG; exact Blk.new _ _ _
    clear hb hW hG HB3
    go_wp2_with fail
    refine (X1.out _ w4 VT.out.isr).mono ?_
    rintro e1 w5 ⟨rfl, hb⟩
    have HB5 := Lib.hid (HB4.out.trans (hb.mono HB4.out.size))
    replace VT := Lib.hid (VT.out.bel hb)
    replace KS := Lib.hid (KS.out.bel hb)
    clear hb HB4
    go_wp2_with fail
    go_loopw [13, 14] (fun x i wr => ∃ k : Nat, k ≤ NT ∧ i = .int .i64 k ∧ x = .int .i64 0 ∧ Hid (OwnR 27 w1.heap.size (.slice AT NT cT) T wr) ∧ Hid (Blk S #[.int .u32 0, .int .i64 0, .int .i64 0, .int .i64 0] 27 wr) ∧ Hid (Below w.heap.size w wr)) (fun _ i _ => NT - (intOf i).toNat)
    case atStart => exact ⟨0, by omega, rfl, rfl, VT, KS, HB5⟩
    case round =>
      clear VT KS HB5
      obtain ⟨k, hk, rfl, hx, VT, KS, HBr⟩ := hrel
      by_cases hlt : k < NT
      · have hkl : k < T.length := by rw [HNT.out]; exact hlt
        have hki : (k : Int) < (NT : Int) := by omega
        have hkz : (0 : Int) ≤ (k : Int) := by omega
        obtain ⟨ad, had, hqq⟩ := VT.out.isr.has'.at_ (k := k * 4) (by rw [rcells_length]; omega)
        clear hqq
        subst had
        have HS : Hid (∀ wx, Below wr.heap.size wr wx → wx.cell? (ad.add (k * 4)) = some (.int .u32 (T[k].at_ : Int)) ∧ wx.cell? ⟨(ad.add (k * 4)).block, (ad.add (k * 4)).off + 1, none⟩ = some (.int .i64 T[k].len) ∧ wx.cell? ⟨(ad.add (k * 4)).block, (ad.add (k * 4)).off + 2, none⟩ = some (.int .i64 T[k].act) ∧ wx.cell? ⟨(ad.add (k * 4)).block, (ad.add (k * 4)).off + 3, none⟩ = some (.int .i64 T[k].nxt)) := fun wx hx => (VT.out.bel hx).isr.has'.four k hkl
        have HD := Lib.hid (Below.refl wr.heap.size wr).drew
        have CC := Lib.hid (CHH.out k hkl)
        have hh : holdR T[k] a = false := find_none.1 HO.out _ (List.getElem_mem hkl)
        obtain ⟨rk, hrk⟩ : ∃ r, T[k] = r := ⟨_, rfl⟩
        rw [hrk] at HS CC hh
        have HX := Lib.hid hx
        clear hrk hx
        rw [show holdB (rk).at_ (cl (rk).len) a = false from hh] at CC
        clear hh
        obtain ⟨f0, f1, f2, f3⟩ := HS.out wr (Below.refl _ _)
        go_upto_region 9 with fail
        go_cut [15] (fun t wx => t = .bool false ∧ Hid (Below wr.heap.size wr wx))
        case first =>
          go_region_held3 (fun w' => w'.cell? (ad.add (k * 4)) = some (.int .u32 (rk.at_ : Int)) ∧ w'.cell? ⟨(ad.add (k * 4)).block, (ad.add (k * 4)).off + 1, none⟩ = some (.int .i64 rk.len) ∧ w'.cell? ⟨(ad.add (k * 4)).block, (ad.add (k * 4)).off + 2, none⟩ = some (.int .i64 rk.act) ∧ w'.cell? ⟨(ad.add (k * 4)).block, (ad.add (k * 4)).off + 3, none⟩ = some (.int .i64 rk.nxt))
            (first | go_keep | exact f0 | exact HS.out _ HD.out | exact (HS.out _ HD.out).1 | exact HS.out _ D1.out | exact (HS.out _ D1.out).1)
            (first
              | (go_simp; go_at_call 19; refine (CC.out _).mono ?_; rintro e w9 ⟨rfl, hb9⟩; have D1 := Lib.hid (HD.out.trans (hb9.mono HD.out.size)); clear hb9))
          all_goals
            go_wp2_with fail
            go_meet
            exact ⟨rfl, D1⟩
        case rest =>
          obtain ⟨rfl, HBc⟩ := hcut
          generalize wc = wd at *
          have VTd := Lib.hid (VT.out.bel HBc.out)
          have KSd := Lib.hid (KS.out.bel HBc.out)
          have HBd := Lib.hid (HBr.out.trans (HBc.out.mono HBr.out.size))
          clear f0 f1 f2 f3
          obtain ⟨f0, f1, f2, f3⟩ := HS.out wd HBc.out
          have qS0 := KSd.out.cell 0 rfl
          have qS1 := KSd.out.cell 1 rfl
          have qS2 := KSd.out.cell 2 rfl
          have qS3 := KSd.out.cell 3 rfl
          clear VT KS HBr HBc HS HD CC
          go_wp2_with fail
          go_quiet (fail)
          go_wp2_with fail
          go_quiet (fail)
          go_wp2_with fail
          go_roundw
          case rel => exact ⟨k + 1, by omega, by go_num, HX.out, VTd.out.drewN _, KSd.out.drewN _, drewN_below HBd.out _⟩
          case measure => simp [intOf]; omega
      · obtain rfl : k = NT := by omega
        have HB0 := HBr
        clear HBr
        subst hx
        go_wp2_with fail
        refine (FM.out _ wr VT.out.isr).mono ?_
        rintro e1 w1 ⟨rfl, hb⟩
        have HB1 := Lib.hid (HB0.out.trans (hb.mono HB0.out.size))
        replace VT := Lib.hid (VT.out.bel hb)
        replace KS := Lib.hid (KS.out.bel hb)
        clear hb HB0
        have qS0 := KS.out.cell 0 rfl
        have qS1 := KS.out.cell 1 rfl
        have qS2 := KS.out.cell 2 rfl
        have qS3 := KS.out.cell 3 rfl
        go_wp2_with fail
        go_ret
        exact ⟨rfl, HB1.out⟩
  | some r =>
    obtain ⟨hr1, hr2, hr3⟩ := find_some ho
    obtain ⟨j0, hj0, hj1⟩ := List.getElem_of_mem hr1
    have HJ : Hid (∃ h : j0 < T.length, T[j0] = r) := ⟨hj0, hj1⟩
    have HJN : Hid (j0 < NT) := by show _ < _; rw [← HNT.out]; exact hj0
    have HR2 := Lib.hid hr2
    have HR3 := Lib.hid hr3
    have HR1 := Lib.hid hr1
    obtain ⟨nx, hnx⟩ : ∃ x : Int, (nextT (some r)).1 = x := ⟨_, rfl⟩
    obtain ⟨tq, hto⟩ : ∃ x : Bool, (nextT (some r)).2 = x := ⟨_, rfl⟩
    have HNX := Lib.hid hnx
    have HTO := Lib.hid hto
    have F1x : Hid (∀ v w, IsR w v T → Calls Try.prog 12 #[v, .int .u32 (a : Int)] w fun e w' => e = .returned (.tuple #[.agg #[.int .u32 (r.at_ : Int), .int .i64 r.len, .int .i64 r.act, .int .i64 r.nxt], .bool true]) ∧ Below w.heap.size w w') := fun v w hv => by
      have h := F1.out v w hv
      rw [ho] at h
      exact h
    clear F1
    have F1 := F1x
    clear F1x
    have X1x : Hid (∀ v w, IsR w v T → Calls Try.prog 14 #[v, .int .u32 (a : Int)] w fun e w' => e = .returned (.tuple #[.int .i64 nx, .bool tq]) ∧ Below w.heap.size w w') := fun v w hv => by
      have h := X1.out v w hv
      rw [ho, HNX.out, HTO.out] at h
      exact h
    clear X1
    have X1 := X1x
    clear X1x
    clear ho hr1 hr2 hr3 hj0 hj1 hnx hto
    go_wp2_with fail
    refine (F1.out _ w2 VT.out.isr).mono ?_
    rintro e1 w3 ⟨rfl, hb⟩
    have HB3 := Lib.hid (HB2.out.trans (hb.mono HB2.out.size))
    replace VT := Lib.hid (VT.out.bel hb)
    clear hb HB2
    go_upto_region 4 with fail
    obtain ⟨w4, hW⟩ : ∃ W, w3.alloc (.cells #[.int .u32 (r.at_ : Int), .int .i64 r.len, .int .i64 r.act, .int .i64 r.nxt] 27) = W := ⟨_, rfl⟩
    obtain ⟨S, hG⟩ : ∃ G, w3.heap.size = G := ⟨_, rfl⟩
    rw [hW, hG]
    have hb : Below w3.heap.size w3 w4 := by subst hW; exact (Below.refl _ _).alloc (Nat.le_refl _) _
    have HB4 := Lib.hid (HB3.out.trans (hb.mono HB3.out.size))
    have LS : Hid (w.heap.size ≤ S) := by subst hG; exact HB3.out.size
    replace VT := Lib.hid (VT.out.bel hb)
    have KS : Hid (Blk S #[.int .u32 (r.at_ : Int), .int .i64 r.len, .int .i64 r.act, .int .i64 r.nxt] 27 w4) := by subst hW hG; exact Blk.new _ _ _
    clear hb hW hG HB3
    go_wp2_with fail
    refine (X1.out _ w4 VT.out.isr).mono ?_
    rintro e1 w5 ⟨rfl, hb⟩
    have HB5 := Lib.hid (HB4.out.trans (hb.mono HB4.out.size))
    replace VT := Lib.hid (VT.out.bel hb)
    replace KS := Lib.hid (KS.out.bel hb)
    clear hb HB4
    go_wp2_with fail
    go_loopw [13, 14] (fun x i wr => ∃ k : Nat, k ≤ NT ∧ i = .int .i64 k ∧ x = .int .i64 (if j0 < k then 1 else 0) ∧ Hid (OwnR 27 w1.heap.size (.slice AT NT cT) T wr) ∧ Hid (Blk S #[.int .u32 (r.at_ : Int), .int .i64 r.len, .int .i64 r.act, .int .i64 r.nxt] 27 wr) ∧ Hid (Below w.heap.size w wr)) (fun _ i _ => NT - (intOf i).toNat)
    case atStart => exact ⟨0, by omega, rfl, by rw [if_neg (by omega)], VT, KS, HB5⟩
    case round =>
      clear VT KS HB5
      obtain ⟨k, hk, rfl, hx, VT, KS, HBr⟩ := hrel
      by_cases hlt : k < NT
      · have hkl : k < T.length := by rw [HNT.out]; exact hlt
        have hki : (k : Int) < (NT : Int) := by omega
        have hkz : (0 : Int) ≤ (k : Int) := by omega
        obtain ⟨ad, had, hqq⟩ := VT.out.isr.has'.at_ (k := k * 4) (by rw [rcells_length]; omega)
        clear hqq
        subst had
        have HS : Hid (∀ wx, Below wr.heap.size wr wx → wx.cell? (ad.add (k * 4)) = some (.int .u32 (T[k].at_ : Int)) ∧ wx.cell? ⟨(ad.add (k * 4)).block, (ad.add (k * 4)).off + 1, none⟩ = some (.int .i64 T[k].len) ∧ wx.cell? ⟨(ad.add (k * 4)).block, (ad.add (k * 4)).off + 2, none⟩ = some (.int .i64 T[k].act) ∧ wx.cell? ⟨(ad.add (k * 4)).block, (ad.add (k * 4)).off + 3, none⟩ = some (.int .i64 T[k].nxt)) := fun wx hx => (VT.out.bel hx).isr.has'.four k hkl
        have HD := Lib.hid (Below.refl wr.heap.size wr).drew
        have CC := Lib.hid (CHH.out k hkl)
        cases hh : holdR T[k] a with
        | false =>
          obtain ⟨rk, hrk⟩ : ∃ r, T[k] = r := ⟨_, rfl⟩
          rw [hrk] at HS CC hh
          have hkj : k ≠ j0 := fun e => by
            subst e
            obtain ⟨_, e2⟩ := HJ.out
            rw [← hrk, e2, HR2.out] at hh
            cases hh
          have hx2 : u13 = .int .i64 (if j0 < k + 1 then 1 else 0) := by rw [hx]; congr 1; by_cases g : j0 < k; rw [if_pos g, if_pos (by omega)]; rw [if_neg g, if_neg (by omega)]
          have HX := Lib.hid hx2
          clear hrk hx hx2
          rw [show holdB (rk).at_ (cl (rk).len) a = false from hh] at CC
          clear hh
          obtain ⟨f0, f1, f2, f3⟩ := HS.out wr (Below.refl _ _)
          go_upto_region 9 with fail
          go_cut [15] (fun t wx => t = .bool false ∧ Hid (Below wr.heap.size wr wx))
          case first =>
            go_region_held3 (fun w' => w'.cell? (ad.add (k * 4)) = some (.int .u32 (rk.at_ : Int)) ∧ w'.cell? ⟨(ad.add (k * 4)).block, (ad.add (k * 4)).off + 1, none⟩ = some (.int .i64 rk.len) ∧ w'.cell? ⟨(ad.add (k * 4)).block, (ad.add (k * 4)).off + 2, none⟩ = some (.int .i64 rk.act) ∧ w'.cell? ⟨(ad.add (k * 4)).block, (ad.add (k * 4)).off + 3, none⟩ = some (.int .i64 rk.nxt))
              (first | go_keep | exact f0 | exact HS.out _ HD.out | exact (HS.out _ HD.out).1 | exact HS.out _ D1.out | exact (HS.out _ D1.out).1)
              (first
                | (go_simp; go_at_call 19; refine (CC.out _).mono ?_; rintro e w9 ⟨rfl, hb9⟩; have D1 := Lib.hid (HD.out.trans (hb9.mono HD.out.size)); clear hb9))
            all_goals
              go_wp2_with fail
              go_meet
              exact ⟨rfl, D1⟩
          case rest =>
            obtain ⟨rfl, HBc⟩ := hcut
            generalize wc = wd at *
            have VTd := Lib.hid (VT.out.bel HBc.out)
            have KSd := Lib.hid (KS.out.bel HBc.out)
            have HBd := Lib.hid (HBr.out.trans (HBc.out.mono HBr.out.size))
            clear f0 f1 f2 f3
            obtain ⟨f0, f1, f2, f3⟩ := HS.out wd HBc.out
            have qS0 := KSd.out.cell 0 rfl
            have qS1 := KSd.out.cell 1 rfl
            have qS2 := KSd.out.cell 2 rfl
            have qS3 := KSd.out.cell 3 rfl
            clear VT KS HBr HBc HS HD CC
            go_wp2_with fail
            go_quiet (fail)
            go_wp2_with fail
            go_quiet (fail)
            go_wp2_with fail
            go_roundw
            case rel => exact ⟨k + 1, by omega, by go_num, HX.out, VTd.out.drewN _, KSd.out.drewN _, drewN_below HBd.out _⟩
            case measure => simp [intOf]; omega
        | true =>
          by_cases hkj : k = j0
          · subst hkj
            have hrk : T[k] = r := HJ.out.2
            rw [hrk] at HS CC hh
            have hx0 : u13 = .int .i64 0 := by rw [hx, if_neg (by omega)]
            subst hx0
            clear hx
            have t1 : decide (r.len > r.len) = false := decide_eq_false (by omega)
            have t2 : (r.len == r.len) = true := by simp
            have t6 : ((r.at_ : Int) == (r.at_ : Int)) = true := by simp
            have t7 : (r.act == r.act) = true := by simp
            have t8 : (r.nxt == r.nxt) = true := by simp
            clear hrk
            rw [show holdB (r).at_ (cl (r).len) a = true from hh] at CC
            clear hh
            obtain ⟨f0, f1, f2, f3⟩ := HS.out wr (Below.refl _ _)
            go_upto_region 9 with fail
            go_cut [15] (fun t wx => t = .bool true ∧ Hid (Below wr.heap.size wr wx))
            case first =>
              go_region_held3 (fun w' => w'.cell? (ad.add (k * 4)) = some (.int .u32 (r.at_ : Int)) ∧ w'.cell? ⟨(ad.add (k * 4)).block, (ad.add (k * 4)).off + 1, none⟩ = some (.int .i64 r.len) ∧ w'.cell? ⟨(ad.add (k * 4)).block, (ad.add (k * 4)).off + 2, none⟩ = some (.int .i64 r.act) ∧ w'.cell? ⟨(ad.add (k * 4)).block, (ad.add (k * 4)).off + 3, none⟩ = some (.int .i64 r.nxt))
                (first | go_keep | exact f0 | exact HS.out _ HD.out | exact (HS.out _ HD.out).1 | exact HS.out _ D1.out | exact (HS.out _ D1.out).1)
                (first
                  | (go_simp; go_at_call 19; refine (CC.out _).mono ?_; rintro e w9 ⟨rfl, hb9⟩; have D1 := Lib.hid (HD.out.trans (hb9.mono HD.out.size)); clear hb9))
              all_goals
                go_wp2_with fail
                go_meet
                exact ⟨rfl, D1⟩
            case rest =>
              obtain ⟨rfl, HBc⟩ := hcut
              generalize wc = wd at *
              have VTd := Lib.hid (VT.out.bel HBc.out)
              have KSd := Lib.hid (KS.out.bel HBc.out)
              have HBd := Lib.hid (HBr.out.trans (HBc.out.mono HBr.out.size))
              clear f0 f1 f2 f3
              obtain ⟨f0, f1, f2, f3⟩ := HS.out wd HBc.out
              have qS0 := KSd.out.cell 0 rfl
              have qS1 := KSd.out.cell 1 rfl
              have qS2 := KSd.out.cell 2 rfl
              have qS3 := KSd.out.cell 3 rfl
              clear VT KS HBr HBc HS HD CC
              go_wp2_with fail
              go_quiet (fail)
              go_wp2_with fail
              go_quiet (fail)
              go_wp2_with fail
              go_quiet (fail)
              go_wp2_with fail
              go_roundw
              case rel => exact ⟨k + 1, by omega, by go_num, by rw [if_pos (by omega)], VTd.out.drewN _, KSd.out.drewN _, drewN_below HBd.out _⟩
              case measure => simp [intOf]; omega
          · obtain ⟨rk, hrk⟩ : ∃ r, T[k] = r := ⟨_, rfl⟩
            rw [hrk] at HS CC hh
            have hlen : rk.len < r.len := by
              have h1 := HR3.out _ (List.getElem_mem hkl) (by rw [hrk]; exact hh)
              rw [hrk] at h1
              rcases Int.lt_or_eq_of_le h1 with g | g
              · exact g
              · have e := tbl_one HTT.out (List.getElem_mem hkl) HR1.out (by rw [hrk]; exact hh) HR2.out (by rw [hrk]; exact g)
                obtain ⟨h2, e2⟩ := HJ.out
                exact absurd (ord_at HTT.out.ord hkl h2 (e.trans e2.symm)) hkj
            have t1 : decide (rk.len > r.len) = false := decide_eq_false (by omega)
            have t2 : (rk.len == r.len) = false := by rw [beq_eq_false_iff_ne]; omega
            have hx2 : u13 = .int .i64 (if j0 < k + 1 then 1 else 0) := by rw [hx]; congr 1; by_cases g : j0 < k; rw [if_pos g, if_pos (by omega)]; rw [if_neg g, if_neg (by omega)]
            have HX := Lib.hid hx2
            clear hrk hx hx2
            rw [show holdB (rk).at_ (cl (rk).len) a = true from hh] at CC
            clear hh
            obtain ⟨f0, f1, f2, f3⟩ := HS.out wr (Below.refl _ _)
            go_upto_region 9 with fail
            go_cut [15] (fun t wx => t = .bool true ∧ Hid (Below wr.heap.size wr wx))
            case first =>
              go_region_held3 (fun w' => w'.cell? (ad.add (k * 4)) = some (.int .u32 (rk.at_ : Int)) ∧ w'.cell? ⟨(ad.add (k * 4)).block, (ad.add (k * 4)).off + 1, none⟩ = some (.int .i64 rk.len) ∧ w'.cell? ⟨(ad.add (k * 4)).block, (ad.add (k * 4)).off + 2, none⟩ = some (.int .i64 rk.act) ∧ w'.cell? ⟨(ad.add (k * 4)).block, (ad.add (k * 4)).off + 3, none⟩ = some (.int .i64 rk.nxt))
                (first | go_keep | exact f0 | exact HS.out _ HD.out | exact (HS.out _ HD.out).1 | exact HS.out _ D1.out | exact (HS.out _ D1.out).1)
                (first
                  | (go_simp; go_at_call 19; refine (CC.out _).mono ?_; rintro e w9 ⟨rfl, hb9⟩; have D1 := Lib.hid (HD.out.trans (hb9.mono HD.out.size)); clear hb9))
              all_goals
                go_wp2_with fail
                go_meet
                exact ⟨rfl, D1⟩
            case rest =>
              obtain ⟨rfl, HBc⟩ := hcut
              generalize wc = wd at *
              have VTd := Lib.hid (VT.out.bel HBc.out)
              have KSd := Lib.hid (KS.out.bel HBc.out)
              have HBd := Lib.hid (HBr.out.trans (HBc.out.mono HBr.out.size))
              clear f0 f1 f2 f3
              obtain ⟨f0, f1, f2, f3⟩ := HS.out wd HBc.out
              have qS0 := KSd.out.cell 0 rfl
              have qS1 := KSd.out.cell 1 rfl
              have qS2 := KSd.out.cell 2 rfl
              have qS3 := KSd.out.cell 3 rfl
              clear VT KS HBr HBc HS HD CC
              go_wp2_with fail
              go_quiet (fail)
              go_wp2_with fail
              go_quiet (fail)
              go_wp2_with fail
              go_roundw
              case rel => exact ⟨k + 1, by omega, by go_num, HX.out, VTd.out.drewN _, KSd.out.drewN _, drewN_below HBd.out _⟩
              case measure => simp [intOf]; omega
      · obtain rfl : k = NT := by omega
        have HB0 := HBr
        clear HBr
        have hx1 : u13 = .int .i64 1 := by rw [hx, if_pos HJN.out]
        subst hx1
        clear hx
        by_cases ha1 : r.act = 1
        · have e1 : nx = r.nxt := by rw [← HNX.out]; unfold nextT; simp [ha1]
          have e2 : tq = true := by rw [← HTO.out]; unfold nextT; simp [ha1]
          subst e1 e2
          have t1 : (r.act == 1) = true := by rw [ha1]; rfl
          have t2 : (r.nxt == r.nxt) = true := by simp
          clear ha1
          have qS0 := KS.out.cell 0 rfl
          have qS1 := KS.out.cell 1 rfl
          have qS2 := KS.out.cell 2 rfl
          have qS3 := KS.out.cell 3 rfl
          go_wp2_with fail
          refine (FM.out _ wr VT.out.isr).mono ?_
          rintro e1 w1 ⟨rfl, hb⟩
          clear qS0 qS1 qS2 qS3
          have HB1 := Lib.hid (HB0.out.trans (hb.mono HB0.out.size))
          replace VT := Lib.hid (VT.out.bel hb)
          replace KS := Lib.hid (KS.out.bel hb)
          clear hb HB0
          have qS0 := KS.out.cell 0 rfl
          have qS1 := KS.out.cell 1 rfl
          have qS2 := KS.out.cell 2 rfl
          have qS3 := KS.out.cell 3 rfl
          go_wp2_with fail
          go_ret
          exact ⟨rfl, HB1.out⟩
        · have e1 : nx = 0 := by rw [← HNX.out]; unfold nextT; simp [ha1]
          have e2 : tq = false := by rw [← HTO.out]; unfold nextT; simp [ha1]
          subst e1 e2
          have t1 : (r.act == 1) = false := by rw [beq_eq_false_iff_ne]; exact ha1
          clear ha1
          have qS0 := KS.out.cell 0 rfl
          have qS1 := KS.out.cell 1 rfl
          have qS2 := KS.out.cell 2 rfl
          have qS3 := KS.out.cell 3 rfl
          go_wp2_with fail
          refine (FM.out _ wr VT.out.isr).mono ?_
          rintro e1 w1 ⟨rfl, hb⟩
          clear qS0 qS1 qS2 qS3
          have HB1 := Lib.hid (HB0.out.trans (hb.mono HB0.out.size))
          replace VT := Lib.hid (VT.out.bel hb)
          replace KS := Lib.hid (KS.out.bel hb)
          clear hb HB0
          have qS0 := KS.out.cell 0 rfl
          have qS1 := KS.out.cell 1 rfl
          have qS2 := KS.out.cell 2 rfl
          have qS3 := KS.out.cell 3 rfl
          go_wp2_with fail
          go_ret
          exact ⟨rfl, HB1.out⟩
end Go.Proofs.Ytenkpoppbjgclaa
