/- The walk of theseuslaw08.TableLess. -/
import Derived.Test.YtenkpoppbjgclaaL08
import Derived.Test.YtenkpoppbjgclaaRef08t
import Derived.Test.YtenkpoppbjgclaaOwnR
import Derived.Test.YtenkpoppbjgclaaTblLaws
import Derived.Deep.DeepCutAuto
import Derived.Deep.RegionHeld3
import Derived.BigQuiet
namespace Go.Proofs.Ytenkpoppbjgclaa
open Go.RowKit
set_option linter.unusedVariables false
set_option linter.unusedSimpArgs false

attribute [local go_sem ↓] sliced_cut
attribute [local go_sem] cutA_zero
theorem fit9g (v : Value) (l : List Rl) (w : World) (hv : IsR w v l) (hwf : ∀ r ∈ l, r.at_ ≤ 4294967295) :
    Calls Try.prog 18 #[v, .int .i64 9] w fun e w' => ∃ r, e = .returned r ∧ w'.ownsRow w.heap.size 27 4 r (fitT 9 l).length (rcells (fitT 9 l)) ∧ Below w.heap.size w w' := rfitT_any v l 9 w hv hwf (by decide) (by decide)
theorem own_less {w : World} {base n : Nat} {e : TypeId} {v : Value} {l : List Rl} {k : Nat} {cs : List Value} (h : w.ownsRow base e 4 v n cs) (hc : cs = rcells (without l k)) : OwnR e base v (without l k) w := by
  subst hc
  exact OwnR.mk h (Nat.le_refl _)
theorem less_cells (l : List Rl) (k : Nat) : [] ++ rcells (l.take k) ++ rcells (l.drop (k + 1)) = rcells (without l k) := by
  unfold without
  rw [rcells_append, List.nil_append]
theorem less_len {l : List Rl} {k : Nat} (hk : k < l.length) : (without l k).length = l.length - 1 := by
  unfold without
  simp only [List.length_append, List.length_take, List.length_drop]
  omega
set_option maxRecDepth 100000 in
set_option maxHeartbeats 8000000 in
theorem walkTableLess (a0 : Option Addr) (n0 c0 : Nat) (l0 : List Rl) (a1 a2 : Int) (w : World) (w0 : InR w a0 n0 c0 l0) (w1 : (Lit.int .u8 a1).wf = true) (w2 : (Lit.int .u32 a2).wf = true) :
    Calls Try.prog 9 #[.slice a0 n0 c0, .int .u8 a1, .int .u32 a2] w fun e w' => e = .returned (.bool true) ∧ Below w.heap.size w w' := by
  obtain ⟨hl1, hh1⟩ := bounds_u8 w1
  obtain ⟨p, rfl⟩ := Int.eq_ofNat_of_zero_le hl1
  have hp : (p : Int) ≤ 255 := by omega
  clear w1 hl1 hh1
  obtain ⟨hl2, hh2⟩ := bounds_u32 w2
  obtain ⟨a, rfl⟩ := Int.eq_ofNat_of_zero_le hl2
  have ha : (a : Int) ≤ 4294967295 := by omega
  clear w2 hl2 hh2
  have hat := w0.at_
  have VR := Lib.hid w0.isr
  have FT := Lib.hid (fun w hv => fit9g (.slice a0 n0 c0) l0 w hv hat)
  have hT := fitT_tbl 9 l0 (by omega)
  have hTl := fitT_le 9 l0
  have hTat := Tbl.at_ (m := 9) hat
  generalize fitT 9 l0 = T at *
  obtain ⟨NT, hNT⟩ : ∃ NT, T.length = NT := ⟨_, rfl⟩
  have HNT := Lib.hid hNT
  have hNT2 : (NT : Int) ≤ 20 := by omega
  have HTT := Lib.hid hT
  have HTA := Lib.hid hTat
  have HRI := Lib.hid rule_info
  clear hNT hTl hat hT hTat w0
  have HB0 := Lib.hid (Below.refl w.heap.size w)
  go_enter Try.func9, Try.ntmps9
  go_wp2_with fail
  refine (shown8 w).mono ?_
  rintro e1 w1 ⟨rfl, hb⟩
  have HB1 := Lib.hid (HB0.out.trans (hb.mono HB0.out.size))
  replace VR := Lib.hid (VR.out.bel hb)
  clear hb HB0
  go_wp2_with fail
  refine (FT.out w1 VR.out).mono ?_
  rintro e1 w2 ⟨tv, rfl, hown, hb⟩
  have HB2 := Lib.hid (HB1.out.trans (hb.mono HB1.out.size))
  replace VR := Lib.hid (VR.out.bel hb)
  have VT := Lib.hid (OwnR.mk hown (Nat.le_refl _))
  clear hb HB1
  clear hown FT
  clear VR
  obtain ⟨AT, cT, rfl, hTc, hTm, _⟩ := VT.out.isr.slice
  rw [HNT.out] at hTc
  have hTc2 : (NT : Int) ≤ (cT : Int) := by omega
  simp only [HNT.out] at VT ⊢
  clear hTc
  rcases (by omega : NT = 0 ∨ 0 < NT) with hn | hn
  · subst hn
    have hz : (((0 : Nat) : Int) == 0) = true := rfl
    go_wp2_with fail
    go_ret
    exact ⟨rfl, HB2.out⟩
  · have hz : ((NT : Int) == 0) = false := by rw [beq_eq_false_iff_ne]; omega
    obtain ⟨K, hK⟩ : ∃ K, p % NT = K := ⟨_, rfl⟩
    have hKN : K < NT := by rw [← hK]; exact Nat.mod_lt _ hn
    have HKM : Hid ((p : Int) % (NT : Int) = (K : Int)) := by show _ = _; omega
    clear hK
    have hKz : (0 : Int) ≤ (K : Int) := by omega
    obtain ⟨K1, hK1⟩ : ∃ K1, K + 1 = K1 := ⟨_, rfl⟩
    have hKw : IntKind.i64.wrap ((K : Int) + 1) = (K1 : Int) := by rw [IntKind.wrap_i64]; omega
    have hKz1 : (0 : Int) ≤ (K1 : Int) := by omega
    have hK0 : (K : Int) ≤ (cT : Int) := by omega
    have hK2 : (K1 : Int) ≤ (NT : Int) := by omega
    have hK3 : (K1 : Int) ≤ (cT : Int) := by omega
    have hKl : K < T.length := by rw [HNT.out]; exact hKN
    go_upto_region 6 with fail
    rw [HKM.out]
    obtain ⟨i0, hi0, hz0, hz1, hz2⟩ := info_parts HRI.out
    have HA1 : Hid (Has w2 AT (rcells (T.take K))) := by have h := (VT.out.isr.has').take (K * 4); rw [← rcells_take] at h; exact h
    have HA2 : Hid (Has w2 (cutA AT cT K1 4) (rcells (T.drop K1))) := VT.out.isr.has'.cutR (by rw [HNT.out]; omega)
    have HL1 : Hid ((rcells (T.take K)).length = K * 4) := by show _ = _; rw [rcells_length, List.length_take, Nat.min_eq_left (by omega)]
    have HL2 : Hid ((rcells (T.drop K1)).length = (NT - K1) * 4) := by show _ = _; rw [rcells_length, List.length_drop, HNT.out]
    have ol0 : Hid ((w2.alloc (.cells #[] 27)).ownsRow w2.heap.size 27 4 (.slice (some ⟨w2.heap.size, 0, none⟩) 0 0) 0 []) := World.ownsRow_lit (e := 27) (size := 4) w2 #[] 0 (Nat.le_refl _) (by decide) rfl
    go_cut [10] (fun v wx => Hid (OwnR 27 w2.heap.size v (without T K) wx) ∧ Hid (Below w2.heap.size w2 wx))
    case first =>
      go_region_held3 (fun w' => True)
        (first | go_keep | trivial)
        (first
          | ((refine step_append4 _ (by rfl) (.tmp 27) (.tmp 30) _ (by rfl) w2.heap.size 27 i0 (.agg #[.int .u32 0, .int .i64 0, .int .i64 0, .int .i64 0]) 32 Try.underlying22 hi0 hz0 hz1 hz2 rfl (.slice (some ⟨w2.heap.size, 0, none⟩) 0 0) 0 [] (by rfl) ol0.out.drew AT K _ (rcells (T.take K)) (by rfl) HL1.out (HA1.out.alloc _).drew (rcells_one _) (by unfold maxLen; omega) (by omega) (by simp) ?_
              intro v3 y3 hown3 hgrow3 hat3
              have hb3 : Below w2.heap.size w2 y3 := ((Below.refl _ _).alloc (Nat.le_refl _) _).drew.grown hgrow3 (by simp) (by intro g hg; simp [Value.ownBlock] at hg; omega)))
          | ((refine step_append4 _ (by rfl) (.tmp 31) (.tmp 35) _ (by rfl) w2.heap.size 27 i0 (.agg #[.int .u32 0, .int .i64 0, .int .i64 0, .int .i64 0]) 32 Try.underlying22 hi0 hz0 hz1 hz2 rfl v3 (0 + K) ([] ++ rcells (T.take K)) (by rfl) hown3 (cutA AT cT K1 4) (NT - K1) _ (rcells (T.drop K1)) (by rfl) HL2.out (HA2.out.bel hb3) (rcells_one _) (by unfold maxLen; omega) (by omega) (by have := hb3.size; omega) ?_
              intro v4 y4 hown4 hgrow4 hat4
              have hb4 : Below w2.heap.size w2 y4 := hb3.grown hgrow4 hb3.size (fun g hg => (hown3.lt g hg).1))))
      all_goals
        have HO5 : Hid (OwnR 27 w2.heap.size v4 (without T K) y4) := own_less hown4 (by subst hK1; exact less_cells T K)
        have HB5 := Lib.hid hb4
        clear hown3 hgrow3 hat3 hown4 hgrow4 hat4 hb3 hb4 ol0
        go_wp2_with fail
        go_meet
        exact ⟨HO5, HB5⟩
    case rest =>
      obtain ⟨HVM, HBc⟩ := hcut
      generalize wc = wz at *
      have hb := HBc.out
      have HB3 := Lib.hid (HB2.out.trans (hb.mono HB2.out.size))
      replace VT := Lib.hid (VT.out.bel hb)
      clear HB2 hb HBc HA1 HA2 HL1 HL2 ol0 hi0 hz0 hz1 hz2
      obtain ⟨AM, cM, rfl, _, _, _⟩ := HVM.out.isr.slice
      obtain ⟨NM, hNM⟩ : ∃ NM, (without T K).length = NM := ⟨_, rfl⟩
      rw [hNM] at HVM ⊢
      clear hNM
      have VM := HVM
      clear HVM
      have F1 := Lib.hid (fun v w hv => tfind_any v T a w hv ha HTA.out)
      have F2 := Lib.hid (fun v w hv => tfind_any v (without T K) a w hv ha (fun x hx => HTA.out x ((without_mem HTT.out K hKl x).1 hx).1))
      have FM : Hid (∀ v w, IsR w v (without T K) → Calls Try.prog 16 #[v, .int .i64 9] w fun e w' => e = .returned (.int .i64 0) ∧ Below w.heap.size w w') := fun v w hv => by
        have h := tmay_any v (without T K) 9 w hv (fun x hx => HTA.out x ((without_mem HTT.out K hKl x).1 hx).1)
        rw [mayT_ok.2 ⟨(without_tbl HTT.out K).ok, (without_tbl HTT.out K).ord⟩] at h
        exact h
      cases ho : findF T a with
      | none =>
        have he : findF (without T K) a = none := (less_else HTT.out hKl (by rw [ho]; intro h; cases h)).trans ho
        have F1x : Hid (∀ v w, IsR w v T → Calls Try.prog 12 #[v, .int .u32 (a : Int)] w fun e w' => e = .returned (.tuple #[.agg #[.int .u32 0, .int .i64 0, .int .i64 0, .int .i64 0], .bool false]) ∧ Below w.heap.size w w') := fun v w hv => by
          have h := F1.out v w hv
          rw [ho] at h
          exact h
        clear F1
        have F1 := F1x
        clear F1x
        have F2x : Hid (∀ v w, IsR w v (without T K) → Calls Try.prog 12 #[v, .int .u32 (a : Int)] w fun e w' => e = .returned (.tuple #[.agg #[.int .u32 0, .int .i64 0, .int .i64 0, .int .i64 0], .bool false]) ∧ Below w.heap.size w w') := fun v w hv => by
          have h := F2.out v w hv
          rw [he] at h
          exact h
        clear F2
        have F2 := F2x
        clear F2x
        clear he ho
        go_wp2_with fail
        refine (F1.out _ wz VT.out.isr).mono ?_
        rintro e1 w4 ⟨rfl, hb⟩
        have HB4 := Lib.hid (HB3.out.trans (hb.mono HB3.out.size))
        replace VT := Lib.hid (VT.out.bel hb)
        replace VM := Lib.hid (VM.out.bel hb)
        clear hb HB3
        go_upto_region 8 with fail
        obtain ⟨w5, hW⟩ : ∃ W, w4.alloc (.cells #[.int .u32 0, .int .i64 0, .int .i64 0, .int .i64 0] 27) = W := ⟨_, rfl⟩
        obtain ⟨S, hG⟩ : ∃ G, w4.heap.size = G := ⟨_, rfl⟩
        rw [hW, hG]
        have hb : Below w4.heap.size w4 w5 := by subst hW; exact (Below.refl _ _).alloc (Nat.le_refl _) _
        have HB5 := Lib.hid (HB4.out.trans (hb.mono HB4.out.size))
        have LS : Hid (w.heap.size ≤ S) := by subst hG; exact HB4.out.size
        replace VT := Lib.hid (VT.out.bel hb)
        replace VM := Lib.hid (VM.out.bel hb)
        have KS : Hid (Blk S #[.int .u32 0, .int .i64 0, .int .i64 0, .int .i64 0] 27 w5) := by subst hW hG; exact Blk.new _ _ _
        clear hb hW hG HB4
        go_wp2_with fail
        refine (F2.out _ w5 VM.out.isr).mono ?_
        rintro e1 w6 ⟨rfl, hb⟩
        have HB6 := Lib.hid (HB5.out.trans (hb.mono HB5.out.size))
        replace VT := Lib.hid (VT.out.bel hb)
        replace VM := Lib.hid (VM.out.bel hb)
        replace KS := Lib.hid (KS.out.bel hb)
        clear hb HB5
        go_upto_region 9 with fail
        obtain ⟨w7, hW⟩ : ∃ W, w6.alloc (.cells #[.int .u32 0, .int .i64 0, .int .i64 0, .int .i64 0] 27) = W := ⟨_, rfl⟩
        obtain ⟨M, hG⟩ : ∃ G, w6.heap.size = G := ⟨_, rfl⟩
        rw [hW, hG]
        have hb : Below w6.heap.size w6 w7 := by subst hW; exact (Below.refl _ _).alloc (Nat.le_refl _) _
        have HB7 := Lib.hid (HB6.out.trans (hb.mono HB6.out.size))
        have LM : Hid (w.heap.size ≤ M) := by subst hG; exact HB6.out.size
        have NSM : Hid (S < M) := by subst hG; exact KS.out.size
        replace VT := Lib.hid (VT.out.bel hb)
        replace VM := Lib.hid (VM.out.bel hb)
        replace KS := Lib.hid (KS.out.bel hb)
        have KM : Hid (Blk M #[.int .u32 0, .int .i64 0, .int .i64 0, .int .i64 0] 27 w7) := by subst hW hG; exact Blk.new _ _ _
        clear hb hW hG HB6
        go_wp2_with fail
        refine (FM.out _ w7 VM.out.isr).mono ?_
        rintro e1 w8 ⟨rfl, hb⟩
        have HB8 := Lib.hid (HB7.out.trans (hb.mono HB7.out.size))
        replace VT := Lib.hid (VT.out.bel hb)
        replace VM := Lib.hid (VM.out.bel hb)
        replace KS := Lib.hid (KS.out.bel hb)
        replace KM := Lib.hid (KM.out.bel hb)
        clear hb HB7
        have qS0 := KS.out.cell 0 rfl
        have qS1 := KS.out.cell 1 rfl
        have qS2 := KS.out.cell 2 rfl
        have qS3 := KS.out.cell 3 rfl
        have qM0 := KM.out.cell 0 rfl
        have qM1 := KM.out.cell 1 rfl
        have qM2 := KM.out.cell 2 rfl
        have qM3 := KM.out.cell 3 rfl
        go_wp2_with fail
        go_quiet (fail)
        go_wp2_with fail
        go_ret
        exact ⟨rfl, drewN_below HB8.out _⟩
      | some s =>
        obtain ⟨ad, had, _⟩ := VT.out.isr.has'.at_ (k := K * 4) (by rw [rcells_length]; omega)
        subst had
        have hcb : (K * 4 : Int) = ((K * 4 : Nat) : Int) := by omega
        by_cases hs : s = T[K]
        · subst hs
          have hlf := less_found HTT.out hKl ho
          cases he : findF (without T K) a with
          | none =>
            have F1x : Hid (∀ v w, IsR w v T → Calls Try.prog 12 #[v, .int .u32 (a : Int)] w fun e w' => e = .returned (.tuple #[.agg #[.int .u32 (T[K].at_ : Int), .int .i64 T[K].len, .int .i64 T[K].act, .int .i64 T[K].nxt], .bool true]) ∧ Below w.heap.size w w') := fun v w hv => by
              have h := F1.out v w hv
              rw [ho] at h
              exact h
            clear F1
            have F1 := F1x
            clear F1x
            have F2x : Hid (∀ v w, IsR w v (without T K) → Calls Try.prog 12 #[v, .int .u32 (a : Int)] w fun e w' => e = .returned (.tuple #[.agg #[.int .u32 0, .int .i64 0, .int .i64 0, .int .i64 0], .bool false]) ∧ Below w.heap.size w w') := fun v w hv => by
              have h := F2.out v w hv
              rw [he] at h
              exact h
            clear F2
            have F2 := F2x
            clear F2x
            clear he ho hlf
            obtain ⟨s, hs⟩ : ∃ s, T[K] = s := ⟨_, rfl⟩
            have HS := Lib.hid hs
            rw [hs] at F1
            clear hs
            have t6 : ((s.at_ : Int) == (s.at_ : Int)) = true := by simp
            have t7 : (s.len == s.len) = true := by simp
            have t8 : (s.act == s.act) = true := by simp
            have t9 : (s.nxt == s.nxt) = true := by simp
            go_wp2_with fail
            refine (F1.out _ wz VT.out.isr).mono ?_
            rintro e1 w4 ⟨rfl, hb⟩
            have HB4 := Lib.hid (HB3.out.trans (hb.mono HB3.out.size))
            replace VT := Lib.hid (VT.out.bel hb)
            replace VM := Lib.hid (VM.out.bel hb)
            clear hb HB3
            go_upto_region 8 with fail
            obtain ⟨w5, hW⟩ : ∃ W, w4.alloc (.cells #[.int .u32 (s.at_ : Int), .int .i64 s.len, .int .i64 s.act, .int .i64 s.nxt] 27) = W := ⟨_, rfl⟩
            obtain ⟨S, hG⟩ : ∃ G, w4.heap.size = G := ⟨_, rfl⟩
            rw [hW, hG]
            have hb : Below w4.heap.size w4 w5 := by subst hW; exact (Below.refl _ _).alloc (Nat.le_refl _) _
            have HB5 := Lib.hid (HB4.out.trans (hb.mono HB4.out.size))
            have LS : Hid (w.heap.size ≤ S) := by subst hG; exact HB4.out.size
            replace VT := Lib.hid (VT.out.bel hb)
            replace VM := Lib.hid (VM.out.bel hb)
            have KS : Hid (Blk S #[.int .u32 (s.at_ : Int), .int .i64 s.len, .int .i64 s.act, .int .i64 s.nxt] 27 w5) := by subst hW hG; exact Blk.new _ _ _
            clear hb hW hG HB4
            go_wp2_with fail
            refine (F2.out _ w5 VM.out.isr).mono ?_
            rintro e1 w6 ⟨rfl, hb⟩
            have HB6 := Lib.hid (HB5.out.trans (hb.mono HB5.out.size))
            replace VT := Lib.hid (VT.out.bel hb)
            replace VM := Lib.hid (VM.out.bel hb)
            replace KS := Lib.hid (KS.out.bel hb)
            clear hb HB5
            go_upto_region 9 with fail
            obtain ⟨w7, hW⟩ : ∃ W, w6.alloc (.cells #[.int .u32 0, .int .i64 0, .int .i64 0, .int .i64 0] 27) = W := ⟨_, rfl⟩
            obtain ⟨M, hG⟩ : ∃ G, w6.heap.size = G := ⟨_, rfl⟩
            rw [hW, hG]
            have hb : Below w6.heap.size w6 w7 := by subst hW; exact (Below.refl _ _).alloc (Nat.le_refl _) _
            have HB7 := Lib.hid (HB6.out.trans (hb.mono HB6.out.size))
            have LM : Hid (w.heap.size ≤ M) := by subst hG; exact HB6.out.size
            have NSM : Hid (S < M) := by subst hG; exact KS.out.size
            replace VT := Lib.hid (VT.out.bel hb)
            replace VM := Lib.hid (VM.out.bel hb)
            replace KS := Lib.hid (KS.out.bel hb)
            have KM : Hid (Blk M #[.int .u32 0, .int .i64 0, .int .i64 0, .int .i64 0] 27 w7) := by subst hW hG; exact Blk.new _ _ _
            clear hb hW hG HB6
            go_wp2_with fail
            refine (FM.out _ w7 VM.out.isr).mono ?_
            rintro e1 w8 ⟨rfl, hb⟩
            have HB8 := Lib.hid (HB7.out.trans (hb.mono HB7.out.size))
            replace VT := Lib.hid (VT.out.bel hb)
            replace VM := Lib.hid (VM.out.bel hb)
            replace KS := Lib.hid (KS.out.bel hb)
            replace KM := Lib.hid (KM.out.bel hb)
            clear hb HB7
            obtain ⟨f0, f1, f2, f3⟩ := VT.out.isr.has'.four K hKl
            rw [HS.out] at f0 f1 f2 f3
            have qS0 := KS.out.cell 0 rfl
            have qS1 := KS.out.cell 1 rfl
            have qS2 := KS.out.cell 2 rfl
            have qS3 := KS.out.cell 3 rfl
            have qM0 := KM.out.cell 0 rfl
            have qM1 := KM.out.cell 1 rfl
            have qM2 := KM.out.cell 2 rfl
            have qM3 := KM.out.cell 3 rfl
            go_wp2_with fail
            go_quiet (fail)
            go_wp2_with fail
            go_ret
            exact ⟨rfl, drewN_below HB8.out _⟩
          | some u =>
            have F1x : Hid (∀ v w, IsR w v T → Calls Try.prog 12 #[v, .int .u32 (a : Int)] w fun e w' => e = .returned (.tuple #[.agg #[.int .u32 (T[K].at_ : Int), .int .i64 T[K].len, .int .i64 T[K].act, .int .i64 T[K].nxt], .bool true]) ∧ Below w.heap.size w w') := fun v w hv => by
              have h := F1.out v w hv
              rw [ho] at h
              exact h
            clear F1
            have F1 := F1x
            clear F1x
            have td : decide (u.len < T[K].len) = true := decide_eq_true (hlf u he)
            have F2x : Hid (∀ v w, IsR w v (without T K) → Calls Try.prog 12 #[v, .int .u32 (a : Int)] w fun e w' => e = .returned (.tuple #[.agg #[.int .u32 (u.at_ : Int), .int .i64 u.len, .int .i64 u.act, .int .i64 u.nxt], .bool true]) ∧ Below w.heap.size w w') := fun v w hv => by
              have h := F2.out v w hv
              rw [he] at h
              exact h
            clear F2
            have F2 := F2x
            clear F2x
            clear he ho hlf
            obtain ⟨s, hs⟩ : ∃ s, T[K] = s := ⟨_, rfl⟩
            have HS := Lib.hid hs
            rw [hs] at F1 td
            clear hs
            have t6 : ((s.at_ : Int) == (s.at_ : Int)) = true := by simp
            have t7 : (s.len == s.len) = true := by simp
            have t8 : (s.act == s.act) = true := by simp
            have t9 : (s.nxt == s.nxt) = true := by simp
            go_wp2_with fail
            refine (F1.out _ wz VT.out.isr).mono ?_
            rintro e1 w4 ⟨rfl, hb⟩
            have HB4 := Lib.hid (HB3.out.trans (hb.mono HB3.out.size))
            replace VT := Lib.hid (VT.out.bel hb)
            replace VM := Lib.hid (VM.out.bel hb)
            clear hb HB3
            go_upto_region 8 with fail
            obtain ⟨w5, hW⟩ : ∃ W, w4.alloc (.cells #[.int .u32 (s.at_ : Int), .int .i64 s.len, .int .i64 s.act, .int .i64 s.nxt] 27) = W := ⟨_, rfl⟩
            obtain ⟨S, hG⟩ : ∃ G, w4.heap.size = G := ⟨_, rfl⟩
            rw [hW, hG]
            have hb : Below w4.heap.size w4 w5 := by subst hW; exact (Below.refl _ _).alloc (Nat.le_refl _) _
            have HB5 := Lib.hid (HB4.out.trans (hb.mono HB4.out.size))
            have LS : Hid (w.heap.size ≤ S) := by subst hG; exact HB4.out.size
            replace VT := Lib.hid (VT.out.bel hb)
            replace VM := Lib.hid (VM.out.bel hb)
            have KS : Hid (Blk S #[.int .u32 (s.at_ : Int), .int .i64 s.len, .int .i64 s.act, .int .i64 s.nxt] 27 w5) := by subst hW hG; exact Blk.new _ _ _
            clear hb hW hG HB4
            go_wp2_with fail
            refine (F2.out _ w5 VM.out.isr).mono ?_
            rintro e1 w6 ⟨rfl, hb⟩
            have HB6 := Lib.hid (HB5.out.trans (hb.mono HB5.out.size))
            replace VT := Lib.hid (VT.out.bel hb)
            replace VM := Lib.hid (VM.out.bel hb)
            replace KS := Lib.hid (KS.out.bel hb)
            clear hb HB5
            go_upto_region 9 with fail
            obtain ⟨w7, hW⟩ : ∃ W, w6.alloc (.cells #[.int .u32 (u.at_ : Int), .int .i64 u.len, .int .i64 u.act, .int .i64 u.nxt] 27) = W := ⟨_, rfl⟩
            obtain ⟨M, hG⟩ : ∃ G, w6.heap.size = G := ⟨_, rfl⟩
            rw [hW, hG]
            have hb : Below w6.heap.size w6 w7 := by subst hW; exact (Below.refl _ _).alloc (Nat.le_refl _) _
            have HB7 := Lib.hid (HB6.out.trans (hb.mono HB6.out.size))
            have LM : Hid (w.heap.size ≤ M) := by subst hG; exact HB6.out.size
            have NSM : Hid (S < M) := by subst hG; exact KS.out.size
            replace VT := Lib.hid (VT.out.bel hb)
            replace VM := Lib.hid (VM.out.bel hb)
            replace KS := Lib.hid (KS.out.bel hb)
            have KM : Hid (Blk M #[.int .u32 (u.at_ : Int), .int .i64 u.len, .int .i64 u.act, .int .i64 u.nxt] 27 w7) := by subst hW hG; exact Blk.new _ _ _
            clear hb hW hG HB6
            go_wp2_with fail
            refine (FM.out _ w7 VM.out.isr).mono ?_
            rintro e1 w8 ⟨rfl, hb⟩
            have HB8 := Lib.hid (HB7.out.trans (hb.mono HB7.out.size))
            replace VT := Lib.hid (VT.out.bel hb)
            replace VM := Lib.hid (VM.out.bel hb)
            replace KS := Lib.hid (KS.out.bel hb)
            replace KM := Lib.hid (KM.out.bel hb)
            clear hb HB7
            obtain ⟨f0, f1, f2, f3⟩ := VT.out.isr.has'.four K hKl
            rw [HS.out] at f0 f1 f2 f3
            have qS0 := KS.out.cell 0 rfl
            have qS1 := KS.out.cell 1 rfl
            have qS2 := KS.out.cell 2 rfl
            have qS3 := KS.out.cell 3 rfl
            have qM0 := KM.out.cell 0 rfl
            have qM1 := KM.out.cell 1 rfl
            have qM2 := KM.out.cell 2 rfl
            have qM3 := KM.out.cell 3 rfl
            go_wp2_with fail
            go_quiet (fail)
            go_wp2_with fail
            go_ret
            exact ⟨rfl, drewN_below HB8.out _⟩
        · have he : findF (without T K) a = some s := (less_else HTT.out hKl (by rw [ho]; intro h; injection h with h; exact hs h)).trans ho
          have F1x : Hid (∀ v w, IsR w v T → Calls Try.prog 12 #[v, .int .u32 (a : Int)] w fun e w' => e = .returned (.tuple #[.agg #[.int .u32 (s.at_ : Int), .int .i64 s.len, .int .i64 s.act, .int .i64 s.nxt], .bool true]) ∧ Below w.heap.size w w') := fun v w hv => by
            have h := F1.out v w hv
            rw [ho] at h
            exact h
          clear F1
          have F1 := F1x
          clear F1x
          have F2x : Hid (∀ v w, IsR w v (without T K) → Calls Try.prog 12 #[v, .int .u32 (a : Int)] w fun e w' => e = .returned (.tuple #[.agg #[.int .u32 (s.at_ : Int), .int .i64 s.len, .int .i64 s.act, .int .i64 s.nxt], .bool true]) ∧ Below w.heap.size w w') := fun v w hv => by
            have h := F2.out v w hv
            rw [he] at h
            exact h
          clear F2
          have F2 := F2x
          clear F2x
          obtain ⟨sk, hsk⟩ : ∃ s, T[K] = s := ⟨_, rfl⟩
          have HS := Lib.hid hsk
          rw [hsk] at hs
          clear he ho hsk
          have t6 : ((s.at_ : Int) == (s.at_ : Int)) = true := by simp
          have t7 : (s.len == s.len) = true := by simp
          have t8 : (s.act == s.act) = true := by simp
          have t9 : (s.nxt == s.nxt) = true := by simp
          go_wp2_with fail
          refine (F1.out _ wz VT.out.isr).mono ?_
          rintro e1 w4 ⟨rfl, hb⟩
          have HB4 := Lib.hid (HB3.out.trans (hb.mono HB3.out.size))
          replace VT := Lib.hid (VT.out.bel hb)
          replace VM := Lib.hid (VM.out.bel hb)
          clear hb HB3
          go_upto_region 8 with fail
          obtain ⟨w5, hW⟩ : ∃ W, w4.alloc (.cells #[.int .u32 (s.at_ : Int), .int .i64 s.len, .int .i64 s.act, .int .i64 s.nxt] 27) = W := ⟨_, rfl⟩
          obtain ⟨S, hG⟩ : ∃ G, w4.heap.size = G := ⟨_, rfl⟩
          rw [hW, hG]
          have hb : Below w4.heap.size w4 w5 := by subst hW; exact (Below.refl _ _).alloc (Nat.le_refl _) _
          have HB5 := Lib.hid (HB4.out.trans (hb.mono HB4.out.size))
          have LS : Hid (w.heap.size ≤ S) := by subst hG; exact HB4.out.size
          replace VT := Lib.hid (VT.out.bel hb)
          replace VM := Lib.hid (VM.out.bel hb)
          have KS : Hid (Blk S #[.int .u32 (s.at_ : Int), .int .i64 s.len, .int .i64 s.act, .int .i64 s.nxt] 27 w5) := by subst hW hG; exact Blk.new _ _ _
          clear hb hW hG HB4
          go_wp2_with fail
          refine (F2.out _ w5 VM.out.isr).mono ?_
          rintro e1 w6 ⟨rfl, hb⟩
          have HB6 := Lib.hid (HB5.out.trans (hb.mono HB5.out.size))
          replace VT := Lib.hid (VT.out.bel hb)
          replace VM := Lib.hid (VM.out.bel hb)
          replace KS := Lib.hid (KS.out.bel hb)
          clear hb HB5
          go_upto_region 9 with fail
          obtain ⟨w7, hW⟩ : ∃ W, w6.alloc (.cells #[.int .u32 (s.at_ : Int), .int .i64 s.len, .int .i64 s.act, .int .i64 s.nxt] 27) = W := ⟨_, rfl⟩
          obtain ⟨M, hG⟩ : ∃ G, w6.heap.size = G := ⟨_, rfl⟩
          rw [hW, hG]
          have hb : Below w6.heap.size w6 w7 := by subst hW; exact (Below.refl _ _).alloc (Nat.le_refl _) _
          have HB7 := Lib.hid (HB6.out.trans (hb.mono HB6.out.size))
          have LM : Hid (w.heap.size ≤ M) := by subst hG; exact HB6.out.size
          have NSM : Hid (S < M) := by subst hG; exact KS.out.size
          replace VT := Lib.hid (VT.out.bel hb)
          replace VM := Lib.hid (VM.out.bel hb)
          replace KS := Lib.hid (KS.out.bel hb)
          have KM : Hid (Blk M #[.int .u32 (s.at_ : Int), .int .i64 s.len, .int .i64 s.act, .int .i64 s.nxt] 27 w7) := by subst hW hG; exact Blk.new _ _ _
          clear hb hW hG HB6
          go_wp2_with fail
          refine (FM.out _ w7 VM.out.isr).mono ?_
          rintro e1 w8 ⟨rfl, hb⟩
          have HB8 := Lib.hid (HB7.out.trans (hb.mono HB7.out.size))
          replace VT := Lib.hid (VT.out.bel hb)
          replace VM := Lib.hid (VM.out.bel hb)
          replace KS := Lib.hid (KS.out.bel hb)
          replace KM := Lib.hid (KM.out.bel hb)
          clear hb HB7
          obtain ⟨f0, f1, f2, f3⟩ := VT.out.isr.has'.four K hKl
          rw [HS.out] at f0 f1 f2 f3
          have hne : ¬ (s.at_ = sk.at_ ∧ s.len = sk.len ∧ s.act = sk.act ∧ s.nxt = sk.nxt) := fun ⟨h1, h2, h3, h4⟩ => hs (by cases s; cases sk; simp_all)
          have qS0 := KS.out.cell 0 rfl
          have qS1 := KS.out.cell 1 rfl
          have qS2 := KS.out.cell 2 rfl
          have qS3 := KS.out.cell 3 rfl
          have qM0 := KM.out.cell 0 rfl
          have qM1 := KM.out.cell 1 rfl
          have qM2 := KM.out.cell 2 rfl
          have qM3 := KM.out.cell 3 rfl
          have e6 : ∀ x y : Nat, x ≠ y → ((x : Int) == (y : Int)) = false := fun x y h => by rw [beq_eq_false_iff_ne]; omega
          have e7 : ∀ x y : Int, x ≠ y → (x == y) = false := fun x y h => by rw [beq_eq_false_iff_ne]; exact h
          by_cases g0 : s.at_ = sk.at_
          · have d0 : ((s.at_ : Int) == (sk.at_ : Int)) = true := by rw [g0]; simp
            by_cases g1 : s.len = sk.len
            · have d1 : (s.len == sk.len) = true := by rw [g1]; simp
              by_cases g2 : s.act = sk.act
              · have d2 : (s.act == sk.act) = true := by rw [g2]; simp
                have d3 : (s.nxt == sk.nxt) = false := e7 _ _ (fun h => hne ⟨g0, g1, g2, h⟩)
                clear e6 e7 hne hs
                go_wp2_with fail
                go_quiet (fail)
                go_wp2_with fail
                go_ret
                exact ⟨rfl, drewN_below HB8.out _⟩
              · have d2 : (s.act == sk.act) = false := e7 _ _ g2
                clear e6 e7 hne hs
                go_wp2_with fail
                go_quiet (fail)
                go_wp2_with fail
                go_ret
                exact ⟨rfl, drewN_below HB8.out _⟩
            · have d1 : (s.len == sk.len) = false := e7 _ _ g1
              clear e6 e7 hne hs
              go_wp2_with fail
              go_quiet (fail)
              go_wp2_with fail
              go_ret
              exact ⟨rfl, drewN_below HB8.out _⟩
          · have d0 : ((s.at_ : Int) == (sk.at_ : Int)) = false := e6 _ _ g0
            clear e6 e7 hne hs
            go_wp2_with fail
            go_quiet (fail)
            go_wp2_with fail
            go_ret
            exact ⟨rfl, drewN_below HB8.out _⟩
end Go.Proofs.Ytenkpoppbjgclaa
