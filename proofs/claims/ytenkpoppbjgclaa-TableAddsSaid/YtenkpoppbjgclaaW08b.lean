/- The walk of theseuslaw08.TableAdds. -/
import Derived.Test.YtenkpoppbjgclaaL08
import Derived.Test.YtenkpoppbjgclaaRef08t
import Derived.Test.YtenkpoppbjgclaaOwnR
import Derived.Test.YtenkpoppbjgclaaTblLaws
import Derived.Deep.DeepCutAuto
import Derived.Deep.RegionHeld3
namespace Go.Proofs.Ytenkpoppbjgclaa
open Go.RowKit
set_option linter.unusedVariables false
set_option linter.unusedSimpArgs false

theorem fit9 (v : Value) (l : List Rl) (w : World) (hv : IsR w v l) (hwf : ∀ r ∈ l, r.at_ ≤ 4294967295) :
    Calls Try.prog 18 #[v, .int .i64 9] w fun e w' => ∃ r, e = .returned r ∧ w'.ownsRow w.heap.size 27 4 r (fitT 9 l).length (rcells (fitT 9 l)) ∧ Below w.heap.size w w' := rfitT_any v l 9 w hv hwf (by decide) (by decide)
theorem fitR9 (r : Rl) (w : World) (ha : (r.at_ : Int) ≤ 4294967295) :
    Calls Try.prog 21 #[.agg #[.int .u32 (r.at_ : Int), .int .i64 r.len, .int .i64 r.act, .int .i64 r.nxt], .int .i64 9] w fun e w' =>
      e = .returned (.agg #[.int .u32 ((fitRl 9 r).at_ : Int), .int .i64 (fitRl 9 r).len, .int .i64 (fitRl 9 r).act, .int .i64 (fitRl 9 r).nxt]) ∧ Below w.heap.size w w' := fitR_any r 9 w ha (by decide) (by decide)
set_option maxRecDepth 100000 in
set_option maxHeartbeats 8000000 in
theorem walkTableAdds (a0 : Option Addr) (n0 c0 : Nat) (l0 : List Rl) (a1 b1 c1 e1 : Int) (a2 : Int) (w : World) (w0 : InR w a0 n0 c0 l0) (w1 : (Lit.int .u32 a1).wf = true) (x1 : (Lit.int .i64 b1).wf = true) (y1 : (Lit.int .i64 c1).wf = true) (z1 : (Lit.int .i64 e1).wf = true) (w2 : (Lit.int .u32 a2).wf = true) :
    Calls Try.prog 6 #[.slice a0 n0 c0, .agg #[.int .u32 a1, .int .i64 b1, .int .i64 c1, .int .i64 e1], .int .u32 a2] w fun e w' => e = .returned (.bool true) ∧ Below w.heap.size w w' := by
  obtain ⟨hl1, hh1⟩ := bounds_u32 w1
  obtain ⟨b, rfl⟩ := Int.eq_ofNat_of_zero_le hl1
  have hb : (b : Int) ≤ 4294967295 := by omega
  clear w1 hl1 hh1 x1 y1 z1
  obtain ⟨hl2, hh2⟩ := bounds_u32 w2
  obtain ⟨a, rfl⟩ := Int.eq_ofNat_of_zero_le hl2
  have ha : (a : Int) ≤ 4294967295 := by omega
  clear w2 hl2 hh2
  have w3 := w0.first 19
  have hat := w3.at_
  have VR := Lib.hid w3.isr
  obtain ⟨N, hN⟩ : ∃ N, min n0 19 = N := ⟨_, rfl⟩
  have hNm : (min (n0 : Int) 19).toNat = N := by omega
  have hn0 : (n0 : Int) ≤ 9223372036854775807 := by have := w0.cap; have := w0.max; unfold maxLen at this; omega
  have hmz : (0 : Int) ≤ min (n0 : Int) 19 := by omega
  have hmc : min (n0 : Int) 19 ≤ (c0 : Int) := by have := w0.cap; omega
  rw [hN] at VR
  have hl19 : (l0.take 19).length ≤ 19 := List.length_take_le _ _
  generalize l0.take 19 = L at *
  have FT := Lib.hid (fun w hv => fit9 (.slice a0 N c0) L w hv hat)
  have FR := Lib.hid (fun w => fitR9 ⟨b, b1, c1, e1⟩ w hb)
  have hT := fitT_tbl 9 L (by omega)
  have hTl := fitT_len 9 L
  have hTat := Tbl.at_ (m := 9) hat
  have hr9 : mayRl (fitRl 9 ⟨b, b1, c1, e1⟩) 9 = 0 := fitRl_ok _ 9 (by omega)
  have hrat : (fitRl 9 ⟨b, b1, c1, e1⟩).at_ ≤ 4294967295 := Nat.le_trans (fitRl_at 9 _) (by show b ≤ _; omega)
  generalize fitRl 9 ⟨b, b1, c1, e1⟩ = r at *
  have hTl2 : (fitT 9 L).length ≤ 19 := by omega
  generalize fitT 9 L = T at *
  have hmore := fitT_snoc hT hTl2 hr9
  have hat2 : ∀ x ∈ T ++ [r], x.at_ ≤ 4294967295 := fun x hx => by
    rcases List.mem_append.1 hx with hx | hx
    · exact hTat x hx
    · rw [List.mem_singleton.1 hx]; exact hrat
  have hat3 : ∀ x ∈ ins T r, x.at_ ≤ 4294967295 := fun x hx => by
    rcases ins_mem hx with hx | rfl
    · exact hTat x hx
    · exact hrat
  have FM := Lib.hid (fun v w hv => fit9 v (T ++ [r]) w hv hat2)
  rw [hmore] at FM
  obtain ⟨NT, hNT⟩ : ∃ NT, T.length = NT := ⟨_, rfl⟩
  have HNT := Lib.hid hNT
  have hNT2 : (NT : Int) ≤ 19 := by omega
  obtain ⟨NM, hNM⟩ : ∃ NM, (ins T r).length = NM := ⟨_, rfl⟩
  have HNM := Lib.hid hNM
  have F1 := Lib.hid (fun v w hv => tfind_any v T a w hv ha hTat)
  have F2 := Lib.hid (fun v w hv => tfind_any v (ins T r) a w hv ha hat3)
  have CH := Lib.hid (fun w => holds_any r.at_ a r.len w (by omega) ha)
  have HRI := Lib.hid rule_info
  have HTT := Lib.hid hT
  have HR9 := Lib.hid hr9
  clear hNT hNM hmore hat2 hat3 hat hl19 hTl hTl2 hTat hT hr9 hN w3 w0
  have HB0 := Lib.hid (Below.refl w.heap.size w)
  go_enter Try.func6, Try.ntmps6
  go_wp2_with fail
  obtain ⟨w1, hW⟩ : ∃ W, w.alloc (.cells #[.int .u32 (b : Int), .int .i64 b1, .int .i64 c1, .int .i64 e1] 27) = W := ⟨_, rfl⟩
  obtain ⟨g, hG⟩ : ∃ G, w.heap.size = G := ⟨_, rfl⟩
  rw [hW, hG]
  have hb : Below w.heap.size w w1 := by subst hW; exact (Below.refl _ _).alloc (Nat.le_refl _) _
  have HB1 := Lib.hid (HB0.out.trans (hb.mono HB0.out.size))
  have Lg : Hid (w.heap.size ≤ g) := by subst hG; exact HB0.out.size
  replace VR := Lib.hid (VR.out.bel hb)
  have Kg : Hid (Blk g #[.int .u32 (b : Int), .int .i64 b1, .int .i64 c1, .int .i64 e1] 27 w1) := by subst hW hG; exact Blk.new _ _ _
  clear hb hW hG HB0
  refine (shown8 w1).mono ?_
  rintro e1 w2 ⟨rfl, hb⟩
  have HB2 := Lib.hid (HB1.out.trans (hb.mono HB1.out.size))
  replace VR := Lib.hid (VR.out.bel hb)
  replace Kg := Lib.hid (Kg.out.bel hb)
  clear hb HB1
  go_wp2_with fail
  refine (FT.out w2 VR.out).mono ?_
  rintro e1 w3 ⟨tv, rfl, hown, hb⟩
  have HB3 := Lib.hid (HB2.out.trans (hb.mono HB2.out.size))
  replace VR := Lib.hid (VR.out.bel hb)
  replace Kg := Lib.hid (Kg.out.bel hb)
  have VT := Lib.hid (OwnR.mk hown (Nat.le_refl _))
  clear hb HB2
  clear hown
  clear VR
  obtain ⟨AT, cT, rfl, hTc, hTm, _⟩ := VT.out.isr.slice
  rw [HNT.out] at hTc
  have hTc2 : (NT : Int) ≤ (cT : Int) := by omega
  simp only [HNT.out] at VT ⊢
  clear hTc
  have qg0 := Kg.out.cell 0 rfl
  have qg1 := Kg.out.cell 1 rfl
  have qg2 := Kg.out.cell 2 rfl
  have qg3 := Kg.out.cell 3 rfl
  go_wp2_with fail
  refine (FR.out w3).mono ?_
  rintro e1 w4 ⟨rfl, hb⟩
  clear qg0 qg1 qg2 qg3
  have HB4 := Lib.hid (HB3.out.trans (hb.mono HB3.out.size))
  replace Kg := Lib.hid (Kg.out.bel hb)
  replace VT := Lib.hid (VT.out.bel hb)
  clear hb HB3
  clear Kg
  go_upto_region 4 with fail
  obtain ⟨w5, hW⟩ : ∃ W, w4.alloc (.cells #[.int .u32 (r.at_ : Int), .int .i64 r.len, .int .i64 r.act, .int .i64 r.nxt] 27) = W := ⟨_, rfl⟩
  obtain ⟨G, hG⟩ : ∃ G, w4.heap.size = G := ⟨_, rfl⟩
  rw [hW, hG]
  have hb : Below w4.heap.size w4 w5 := by subst hW; exact (Below.refl _ _).alloc (Nat.le_refl _) _
  have HB5 := Lib.hid (HB4.out.trans (hb.mono HB4.out.size))
  have LG : Hid (w.heap.size ≤ G) := by subst hG; exact HB4.out.size
  replace VT := Lib.hid (VT.out.bel hb)
  have KG : Hid (Blk G #[.int .u32 (r.at_ : Int), .int .i64 r.len, .int .i64 r.act, .int .i64 r.nxt] 27 w5) := by subst hW hG; exact Blk.new _ _ _
  clear hb hW hG HB4
  obtain ⟨i0, hi0, hz0, hz1, hz2⟩ := info_parts HRI.out
  have HAT : Hid (Has w5 AT (rcells T)) := VT.out.isr.has'
  have HTL : Hid ((rcells T).length = NT * 4) := by show _ = _; rw [rcells_length, HNT.out]
  have ol0 : Hid ((w5.alloc (.cells #[] 27)).ownsRow w5.heap.size 27 4 (.slice (some ⟨w5.heap.size, 0, none⟩) 0 0) 0 []) := World.ownsRow_lit (e := 27) (size := 4) w5 #[] 0 (Nat.le_refl _) (by decide) rfl
  have ol1 : Hid (((w5.alloc (.cells #[.int .u32 (r.at_ : Int), .int .i64 r.len, .int .i64 r.act, .int .i64 r.nxt] 27)).alloc (.cells #[] 27)).ownsRow w5.heap.size 27 4 (.slice (some ⟨w5.heap.size + 1, 0, none⟩) 0 0) 0 []) := by
    have := World.ownsRow_lit (base := w5.heap.size) (e := 27) (size := 4) (w5.alloc (.cells #[.int .u32 (r.at_ : Int), .int .i64 r.len, .int .i64 r.act, .int .i64 r.nxt] 27)) #[] 0 (by simp) (by decide) rfl
    rw [World.size_alloc] at this
    exact this
  have nw0 : Hid (Has (w5.alloc (.cells #[.int .u32 (r.at_ : Int), .int .i64 r.len, .int .i64 r.act, .int .i64 r.nxt] 27)) (some ⟨w5.heap.size, 0, none⟩) (rcells [r])) := Has.new w5 (rcells [r]) 27 (0, 0)
  have nw1 : Hid (Has ((w5.alloc (.cells #[] 27)).alloc (.cells #[.int .u32 (r.at_ : Int), .int .i64 r.len, .int .i64 r.act, .int .i64 r.nxt] 27)) (some ⟨w5.heap.size + 1, 0, none⟩) (rcells [r])) := by
    have := Has.new (w5.alloc (.cells #[] 27)) (rcells [r]) 27 (0, 0)
    rw [World.size_alloc] at this
    exact this
  have HSk : Hid (∀ wx, Below w5.heap.size w5 wx → wx.cell? ⟨G, 0, none⟩ = some (.int .u32 (r.at_ : Int)) ∧ wx.cell? ⟨G, 1, none⟩ = some (.int .i64 r.len) ∧ wx.cell? ⟨G, 2, none⟩ = some (.int .i64 r.act) ∧ wx.cell? ⟨G, 3, none⟩ = some (.int .i64 r.nxt)) := fun wx hx => ⟨(KG.out.bel hx).cell 0 rfl, (KG.out.bel hx).cell 1 rfl, (KG.out.bel hx).cell 2 rfl, (KG.out.bel hx).cell 3 rfl⟩
  obtain ⟨k0, k1, k2, k3⟩ := HSk.out w5 (Below.refl _ _)
  go_cut [10] (fun v wx => Hid (OwnR 27 w5.heap.size v (ins T r) wx) ∧ Hid (Below w5.heap.size w5 wx))
  case first =>
    go_region_held3 (fun w' => w'.cell? ⟨G, 0, none⟩ = some (.int .u32 (r.at_ : Int)) ∧ w'.cell? ⟨G, 1, none⟩ = some (.int .i64 r.len) ∧ w'.cell? ⟨G, 2, none⟩ = some (.int .i64 r.act) ∧ w'.cell? ⟨G, 3, none⟩ = some (.int .i64 r.nxt))
      (first | go_keep | exact HSk.out _ hb6 | exact HSk.out _ hb4 | exact HSk.out _ hb3 | exact HSk.out _ (hb3.alloc hb3.size _) | exact HSk.out _ (((Below.refl _ _).alloc (Nat.le_refl _) _).drew) | exact HSk.out _ ((((Below.refl _ _).alloc (Nat.le_refl _) _).alloc (by simp) _).drew))
      (first
        | ((refine step_append4 _ (by rfl) (.tmp 24) (.tmp 25) _ (by rfl) w5.heap.size 27 i0 (.agg #[.int .u32 0, .int .i64 0, .int .i64 0, .int .i64 0]) 32 Try.underlying22 hi0 hz0 hz1 hz2 rfl (.slice (some ⟨w5.heap.size, 0, none⟩) 0 0) 0 [] (by rfl) ?_ AT NT _ (rcells T) (by rfl) HTL.out ?_ (rcells_one _) (by unfold maxLen; omega) (by omega) ?_ ?_
            · first | exact ol0.out.drew | exact (ol0.out.alloc _).drew | exact ol1.out.drew
            · first | exact (HAT.out.alloc _).drew | exact ((HAT.out.alloc _).alloc _).drew
            · first | (simp; done) | (simp; omega) | (have := hgrow3.size; simp at this ⊢; omega)
            intro v3 y3 hown3 hgrow3 hat3
            have hb3 : Below w5.heap.size w5 y3 := by
              first
                | exact ((Below.refl _ _).alloc (Nat.le_refl _) _).drew.grown hgrow3 (by simp) (by intro g hg; simp [Value.ownBlock] at hg; omega)
                | exact (((Below.refl _ _).alloc (Nat.le_refl _) _).alloc (by simp) _).drew.grown hgrow3 (by simp; omega) (by intro g hg; simp [Value.ownBlock] at hg; omega)))
        | ((refine step_append4 _ (by rfl) (.tmp 24) (.tmp 25) _ (by rfl) w5.heap.size 27 i0 (.agg #[.int .u32 0, .int .i64 0, .int .i64 0, .int .i64 0]) 32 Try.underlying22 hi0 hz0 hz1 hz2 rfl (.slice (some ⟨w5.heap.size + 1, 0, none⟩) 0 0) 0 [] (by rfl) ?_ AT NT _ (rcells T) (by rfl) HTL.out ?_ (rcells_one _) (by unfold maxLen; omega) (by omega) ?_ ?_
            · first | exact ol0.out.drew | exact (ol0.out.alloc _).drew | exact ol1.out.drew
            · first | exact (HAT.out.alloc _).drew | exact ((HAT.out.alloc _).alloc _).drew
            · first | (simp; done) | (simp; omega) | (have := hgrow3.size; simp at this ⊢; omega)
            intro v3 y3 hown3 hgrow3 hat3
            have hb3 : Below w5.heap.size w5 y3 := by
              first
                | exact ((Below.refl _ _).alloc (Nat.le_refl _) _).drew.grown hgrow3 (by simp) (by intro g hg; simp [Value.ownBlock] at hg; omega)
                | exact (((Below.refl _ _).alloc (Nat.le_refl _) _).alloc (by simp) _).drew.grown hgrow3 (by simp; omega) (by intro g hg; simp [Value.ownBlock] at hg; omega)))
        | ((refine step_append4 _ (by rfl) (.tmp 26) (.tmp 28) _ (by rfl) w5.heap.size 27 i0 (.agg #[.int .u32 0, .int .i64 0, .int .i64 0, .int .i64 0]) 32 Try.underlying22 hi0 hz0 hz1 hz2 rfl v3 (0 + NT) ([] ++ rcells T) (by rfl) ?_ _ 1 _ (rcells [r]) (by rfl) rfl ?_ (rcells_one _) (by unfold maxLen; omega) (by omega) ?_ ?_
            · first | exact hown3 | exact hown3.alloc _
            · first | exact Has.new y3 (rcells [r]) _ _ | exact Has.grown nw1.out.drew hgrow3 (by intro a ha hh; injection ha with ha; subst ha; simp [Value.ownBlock] at hh) | exact Has.grown (nw0.out.alloc _).drew hgrow3 (by intro a ha hh; injection ha with ha; subst ha; simp [Value.ownBlock] at hh)
            · first | (simp; done) | (simp; omega) | (have := hgrow3.size; simp at this ⊢; omega)
            intro v4 y4 hown4 hgrow4 hat4
            have hb4 : Below w5.heap.size w5 y4 := by
              first
                | exact hb3.grown hgrow4 hb3.size (fun g hg => (hown3.lt g hg).1)
                | exact (hb3.alloc hb3.size _).grown hgrow4 (by have := hb3.size; simp; omega) (fun g hg => (hown3.lt g hg).1)))
        | (go_simp; go_at_call 18; refine (FM.out _ _ (IsR.of_own (l := T ++ [r]) (by have h := hown4; rw [List.nil_append, ← rcells_append] at h; exact h))).mono ?_; rintro e y5 ⟨mv, rfl, hown5, hb5⟩; have hb6 : Below w5.heap.size w5 y5 := hb4.trans (hb5.mono hb4.size)))
    all_goals
      have HO5 : Hid (OwnR 27 w5.heap.size mv (ins T r) y5) := OwnR.mk hown5 hb4.size
      have HB5 := Lib.hid hb6
      clear hown3 hgrow3 hat3 hown4 hgrow4 hat4 hb3 hb4 hown5 hb5 hb6 ol0 ol1 nw0 nw1
      go_wp2_with fail
      go_meet
      exact ⟨HO5, HB5⟩
  case rest =>
    obtain ⟨HVM, HBc⟩ := hcut
    generalize wc = wz at *
    have hb := HBc.out
    have HB6 := Lib.hid (HB5.out.trans (hb.mono HB5.out.size))
    replace VT := Lib.hid (VT.out.bel hb)
    replace KG := Lib.hid (KG.out.bel hb)
    clear HB5 hb HBc HSk HAT HTL ol0 ol1 nw0 nw1 k0 k1 k2 k3 hi0 hz0 hz1 hz2 FT FR FM
    obtain ⟨AM, cM, rfl, _, _, _⟩ := HVM.out.isr.slice
    simp only [HNM.out] at HVM ⊢
    have VM := HVM
    clear HVM
    rw [show holdB r.at_ (cl r.len) a = holdR r a from rfl] at CH
    rcases (by omega : NM = NT ∨ NM ≠ NT) with hn | hn
    · have he : findF (ins T r) a = findF T a := by rw [adds_same HTT.out (by rw [HNM.out, HNT.out, hn])]
      subst hn
      have tn : ((NM : Int) == (NM : Int)) = true := by simp
      obtain ⟨o, ho⟩ : ∃ o, findF T a = o := ⟨_, rfl⟩
      rw [he] at F2
      rw [ho] at F1 F2
      generalize (foundR o).at_ = s0 at *
      generalize (foundR o).len = s1 at *
      generalize (foundR o).act = s2 at *
      generalize (foundR o).nxt = s3 at *
      generalize o.isSome = ok at *
      have t0 : (ok == ok) = true := by simp
      have t6 : ((s0 : Int) == (s0 : Int)) = true := by simp
      have t7 : (s1 == s1) = true := by simp
      have t8 : (s2 == s2) = true := by simp
      have t9 : (s3 == s3) = true := by simp
      clear he ho
      go_wp2_with fail
      refine (F1.out _ wz VT.out.isr).mono ?_
      rintro e1 w7 ⟨rfl, hb⟩
      have HB7 := Lib.hid (HB6.out.trans (hb.mono HB6.out.size))
      replace VT := Lib.hid (VT.out.bel hb)
      replace KG := Lib.hid (KG.out.bel hb)
      replace VM := Lib.hid (VM.out.bel hb)
      clear hb HB6
      go_upto_region 6 with fail
      obtain ⟨w8, hW⟩ : ∃ W, w7.alloc (.cells #[.int .u32 (s0 : Int), .int .i64 s1, .int .i64 s2, .int .i64 s3] 27) = W := ⟨_, rfl⟩
      obtain ⟨S, hG⟩ : ∃ G, w7.heap.size = G := ⟨_, rfl⟩
      rw [hW, hG]
      have hb : Below w7.heap.size w7 w8 := by subst hW; exact (Below.refl _ _).alloc (Nat.le_refl _) _
      have HB8 := Lib.hid (HB7.out.trans (hb.mono HB7.out.size))
      have LS : Hid (w.heap.size ≤ S) := by subst hG; exact HB7.out.size
      have NGS : Hid (G < S) := by subst hG; exact KG.out.size
      replace VT := Lib.hid (VT.out.bel hb)
      replace KG := Lib.hid (KG.out.bel hb)
      replace VM := Lib.hid (VM.out.bel hb)
      have KS : Hid (Blk S #[.int .u32 (s0 : Int), .int .i64 s1, .int .i64 s2, .int .i64 s3] 27 w8) := by subst hW hG; exact Blk.new _ _ _
      clear hb hW hG HB7
      go_wp2_with fail
      refine (F2.out _ w8 VM.out.isr).mono ?_
      rintro e1 w9 ⟨rfl, hb⟩
      have HB9 := Lib.hid (HB8.out.trans (hb.mono HB8.out.size))
      replace VT := Lib.hid (VT.out.bel hb)
      replace KG := Lib.hid (KG.out.bel hb)
      replace VM := Lib.hid (VM.out.bel hb)
      replace KS := Lib.hid (KS.out.bel hb)
      clear hb HB8
      go_upto_region 7 with fail
      obtain ⟨w10, hW⟩ : ∃ W, w9.alloc (.cells #[.int .u32 (s0 : Int), .int .i64 s1, .int .i64 s2, .int .i64 s3] 27) = W := ⟨_, rfl⟩
      obtain ⟨M, hG⟩ : ∃ G, w9.heap.size = G := ⟨_, rfl⟩
      rw [hW, hG]
      have hb : Below w9.heap.size w9 w10 := by subst hW; exact (Below.refl _ _).alloc (Nat.le_refl _) _
      have HB10 := Lib.hid (HB9.out.trans (hb.mono HB9.out.size))
      have LM : Hid (w.heap.size ≤ M) := by subst hG; exact HB9.out.size
      have NGM : Hid (G < M) := by subst hG; exact KG.out.size
      have NSM : Hid (S < M) := by subst hG; exact KS.out.size
      replace VT := Lib.hid (VT.out.bel hb)
      replace KG := Lib.hid (KG.out.bel hb)
      replace VM := Lib.hid (VM.out.bel hb)
      replace KS := Lib.hid (KS.out.bel hb)
      have KM : Hid (Blk M #[.int .u32 (s0 : Int), .int .i64 s1, .int .i64 s2, .int .i64 s3] 27 w10) := by subst hW hG; exact Blk.new _ _ _
      clear hb hW hG HB9
      have qS0 := KS.out.cell 0 rfl
      have qS1 := KS.out.cell 1 rfl
      have qS2 := KS.out.cell 2 rfl
      have qS3 := KS.out.cell 3 rfl
      have qM0 := KM.out.cell 0 rfl
      have qM1 := KM.out.cell 1 rfl
      have qM2 := KM.out.cell 2 rfl
      have qM3 := KM.out.cell 3 rfl
      go_wp2_with fail
      go_ret
      exact ⟨rfl, HB10.out⟩
    · have hl : (ins T r).length ≠ T.length := by rw [HNM.out, HNT.out]; exact hn
      have tn : ((NM : Int) == (NT : Int)) = false := by rw [beq_eq_false_iff_ne]; omega
      cases hh : holdR r a with
      | false =>
        have he : findF (ins T r) a = findF T a := adds_else HTT.out HR9.out hl (fun g => by rw [hh] at g; cases g)
        rw [hh] at CH
        clear hh hl
        obtain ⟨o, ho⟩ : ∃ o, findF T a = o := ⟨_, rfl⟩
        rw [he] at F2
        rw [ho] at F1 F2
        generalize (foundR o).at_ = s0 at *
        generalize (foundR o).len = s1 at *
        generalize (foundR o).act = s2 at *
        generalize (foundR o).nxt = s3 at *
        generalize o.isSome = ok at *
        have t0 : (ok == ok) = true := by simp
        have t6 : ((s0 : Int) == (s0 : Int)) = true := by simp
        have t7 : (s1 == s1) = true := by simp
        have t8 : (s2 == s2) = true := by simp
        have t9 : (s3 == s3) = true := by simp
        clear he ho
        go_wp2_with fail
        refine (F1.out _ wz VT.out.isr).mono ?_
        rintro e1 w7 ⟨rfl, hb⟩
        have HB7 := Lib.hid (HB6.out.trans (hb.mono HB6.out.size))
        replace VT := Lib.hid (VT.out.bel hb)
        replace KG := Lib.hid (KG.out.bel hb)
        replace VM := Lib.hid (VM.out.bel hb)
        clear hb HB6
        go_upto_region 6 with fail
        obtain ⟨w8, hW⟩ : ∃ W, w7.alloc (.cells #[.int .u32 (s0 : Int), .int .i64 s1, .int .i64 s2, .int .i64 s3] 27) = W := ⟨_, rfl⟩
        obtain ⟨S, hG⟩ : ∃ G, w7.heap.size = G := ⟨_, rfl⟩
        rw [hW, hG]
        have hb : Below w7.heap.size w7 w8 := by subst hW; exact (Below.refl _ _).alloc (Nat.le_refl _) _
        have HB8 := Lib.hid (HB7.out.trans (hb.mono HB7.out.size))
        have LS : Hid (w.heap.size ≤ S) := by subst hG; exact HB7.out.size
        have NGS : Hid (G < S) := by subst hG; exact KG.out.size
        replace VT := Lib.hid (VT.out.bel hb)
        replace KG := Lib.hid (KG.out.bel hb)
        replace VM := Lib.hid (VM.out.bel hb)
        have KS : Hid (Blk S #[.int .u32 (s0 : Int), .int .i64 s1, .int .i64 s2, .int .i64 s3] 27 w8) := by subst hW hG; exact Blk.new _ _ _
        clear hb hW hG HB7
        go_wp2_with fail
        refine (F2.out _ w8 VM.out.isr).mono ?_
        rintro e1 w9 ⟨rfl, hb⟩
        have HB9 := Lib.hid (HB8.out.trans (hb.mono HB8.out.size))
        replace VT := Lib.hid (VT.out.bel hb)
        replace KG := Lib.hid (KG.out.bel hb)
        replace VM := Lib.hid (VM.out.bel hb)
        replace KS := Lib.hid (KS.out.bel hb)
        clear hb HB8
        go_upto_region 7 with fail
        obtain ⟨w10, hW⟩ : ∃ W, w9.alloc (.cells #[.int .u32 (s0 : Int), .int .i64 s1, .int .i64 s2, .int .i64 s3] 27) = W := ⟨_, rfl⟩
        obtain ⟨M, hG⟩ : ∃ G, w9.heap.size = G := ⟨_, rfl⟩
        rw [hW, hG]
        have hb : Below w9.heap.size w9 w10 := by subst hW; exact (Below.refl _ _).alloc (Nat.le_refl _) _
        have HB10 := Lib.hid (HB9.out.trans (hb.mono HB9.out.size))
        have LM : Hid (w.heap.size ≤ M) := by subst hG; exact HB9.out.size
        have NGM : Hid (G < M) := by subst hG; exact KG.out.size
        have NSM : Hid (S < M) := by subst hG; exact KS.out.size
        replace VT := Lib.hid (VT.out.bel hb)
        replace KG := Lib.hid (KG.out.bel hb)
        replace VM := Lib.hid (VM.out.bel hb)
        replace KS := Lib.hid (KS.out.bel hb)
        have KM : Hid (Blk M #[.int .u32 (s0 : Int), .int .i64 s1, .int .i64 s2, .int .i64 s3] 27 w10) := by subst hW hG; exact Blk.new _ _ _
        clear hb hW hG HB9
        have qG0 := KG.out.cell 0 rfl
        have qG1 := KG.out.cell 1 rfl
        have qG2 := KG.out.cell 2 rfl
        have qG3 := KG.out.cell 3 rfl
        have qS0 := KS.out.cell 0 rfl
        have qS1 := KS.out.cell 1 rfl
        have qS2 := KS.out.cell 2 rfl
        have qS3 := KS.out.cell 3 rfl
        have qM0 := KM.out.cell 0 rfl
        have qM1 := KM.out.cell 1 rfl
        have qM2 := KM.out.cell 2 rfl
        have qM3 := KM.out.cell 3 rfl
        go_wp2_with fail
        refine (CH.out w10).mono ?_
        rintro e1 w11 ⟨rfl, hb⟩
        clear qG0 qG1 qG2 qG3 qS0 qS1 qS2 qS3 qM0 qM1 qM2 qM3
        have HB11 := Lib.hid (HB10.out.trans (hb.mono HB10.out.size))
        replace VT := Lib.hid (VT.out.bel hb)
        replace KG := Lib.hid (KG.out.bel hb)
        replace VM := Lib.hid (VM.out.bel hb)
        replace KS := Lib.hid (KS.out.bel hb)
        replace KM := Lib.hid (KM.out.bel hb)
        clear hb HB10
        have qG0 := KG.out.cell 0 rfl
        have qG1 := KG.out.cell 1 rfl
        have qG2 := KG.out.cell 2 rfl
        have qG3 := KG.out.cell 3 rfl
        have qS0 := KS.out.cell 0 rfl
        have qS1 := KS.out.cell 1 rfl
        have qS2 := KS.out.cell 2 rfl
        have qS3 := KS.out.cell 3 rfl
        have qM0 := KM.out.cell 0 rfl
        have qM1 := KM.out.cell 1 rfl
        have qM2 := KM.out.cell 2 rfl
        have qM3 := KM.out.cell 3 rfl
        go_wp2_with fail
        go_ret
        exact ⟨rfl, HB11.out⟩
      | true =>
        cases ho : findF T a with
        | none =>
          have he : findF (ins T r) a = some r := adds_found HTT.out HR9.out hl hh (fun s hs => by rw [ho] at hs; cases hs)
          rw [hh] at CH
          have t6 : ((r.at_ : Int) == (r.at_ : Int)) = true := by simp
          have t7 : (r.len == r.len) = true := by simp
          have t8 : (r.act == r.act) = true := by simp
          have t9 : (r.nxt == r.nxt) = true := by simp
          have F1x : Hid (∀ v w, IsR w v T → Calls Try.prog 12 #[v, .int .u32 (a : Int)] w fun e w' => e = .returned (.tuple #[.agg #[.int .u32 0, .int .i64 0, .int .i64 0, .int .i64 0], .bool false]) ∧ Below w.heap.size w w') := fun v w hv => by
            have h := F1.out v w hv
            rw [ho] at h
            exact h
          clear F1
          have F1 := F1x
          clear F1x
          have F2x : Hid (∀ v w, IsR w v (ins T r) → Calls Try.prog 12 #[v, .int .u32 (a : Int)] w fun e w' => e = .returned (.tuple #[.agg #[.int .u32 (r.at_ : Int), .int .i64 r.len, .int .i64 r.act, .int .i64 r.nxt], .bool true]) ∧ Below w.heap.size w w') := fun v w hv => by
            have h := F2.out v w hv
            rw [he] at h
            exact h
          clear F2
          have F2 := F2x
          clear F2x
          clear he ho hh hl
          go_wp2_with fail
          refine (F1.out _ wz VT.out.isr).mono ?_
          rintro e1 w7 ⟨rfl, hb⟩
          have HB7 := Lib.hid (HB6.out.trans (hb.mono HB6.out.size))
          replace VT := Lib.hid (VT.out.bel hb)
          replace KG := Lib.hid (KG.out.bel hb)
          replace VM := Lib.hid (VM.out.bel hb)
          clear hb HB6
          go_upto_region 6 with fail
          obtain ⟨w8, hW⟩ : ∃ W, w7.alloc (.cells #[.int .u32 0, .int .i64 0, .int .i64 0, .int .i64 0] 27) = W := ⟨_, rfl⟩
          obtain ⟨S, hG⟩ : ∃ G, w7.heap.size = G := ⟨_, rfl⟩
          rw [hW, hG]
          have hb : Below w7.heap.size w7 w8 := by subst hW; exact (Below.refl _ _).alloc (Nat.le_refl _) _
          have HB8 := Lib.hid (HB7.out.trans (hb.mono HB7.out.size))
          have LS : Hid (w.heap.size ≤ S) := by subst hG; exact HB7.out.size
          have NGS : Hid (G < S) := by subst hG; exact KG.out.size
          replace VT := Lib.hid (VT.out.bel hb)
          replace KG := Lib.hid (KG.out.bel hb)
          replace VM := Lib.hid (VM.out.bel hb)
          have KS : Hid (Blk S #[.int .u32 0, .int .i64 0, .int .i64 0, .int .i64 0] 27 w8) := by subst hW hG; exact Blk.new _ _ _
          clear hb hW hG HB7
          go_wp2_with fail
          refine (F2.out _ w8 VM.out.isr).mono ?_
          rintro e1 w9 ⟨rfl, hb⟩
          have HB9 := Lib.hid (HB8.out.trans (hb.mono HB8.out.size))
          replace VT := Lib.hid (VT.out.bel hb)
          replace KG := Lib.hid (KG.out.bel hb)
          replace VM := Lib.hid (VM.out.bel hb)
          replace KS := Lib.hid (KS.out.bel hb)
          clear hb HB8
          go_upto_region 7 with fail
          obtain ⟨w10, hW⟩ : ∃ W, w9.alloc (.cells #[.int .u32 (r.at_ : Int), .int .i64 r.len, .int .i64 r.act, .int .i64 r.nxt] 27) = W := ⟨_, rfl⟩
          obtain ⟨M, hG⟩ : ∃ G, w9.heap.size = G := ⟨_, rfl⟩
          rw [hW, hG]
          have hb : Below w9.heap.size w9 w10 := by subst hW; exact (Below.refl _ _).alloc (Nat.le_refl _) _
          have HB10 := Lib.hid (HB9.out.trans (hb.mono HB9.out.size))
          have LM : Hid (w.heap.size ≤ M) := by subst hG; exact HB9.out.size
          have NGM : Hid (G < M) := by subst hG; exact KG.out.size
          have NSM : Hid (S < M) := by subst hG; exact KS.out.size
          replace VT := Lib.hid (VT.out.bel hb)
          replace KG := Lib.hid (KG.out.bel hb)
          replace VM := Lib.hid (VM.out.bel hb)
          replace KS := Lib.hid (KS.out.bel hb)
          have KM : Hid (Blk M #[.int .u32 (r.at_ : Int), .int .i64 r.len, .int .i64 r.act, .int .i64 r.nxt] 27 w10) := by subst hW hG; exact Blk.new _ _ _
          clear hb hW hG HB9
          have qG0 := KG.out.cell 0 rfl
          have qG1 := KG.out.cell 1 rfl
          have qG2 := KG.out.cell 2 rfl
          have qG3 := KG.out.cell 3 rfl
          have qS0 := KS.out.cell 0 rfl
          have qS1 := KS.out.cell 1 rfl
          have qS2 := KS.out.cell 2 rfl
          have qS3 := KS.out.cell 3 rfl
          have qM0 := KM.out.cell 0 rfl
          have qM1 := KM.out.cell 1 rfl
          have qM2 := KM.out.cell 2 rfl
          have qM3 := KM.out.cell 3 rfl
          go_wp2_with fail
          refine (CH.out w10).mono ?_
          rintro e1 w11 ⟨rfl, hb⟩
          clear qG0 qG1 qG2 qG3 qS0 qS1 qS2 qS3 qM0 qM1 qM2 qM3
          have HB11 := Lib.hid (HB10.out.trans (hb.mono HB10.out.size))
          replace VT := Lib.hid (VT.out.bel hb)
          replace KG := Lib.hid (KG.out.bel hb)
          replace VM := Lib.hid (VM.out.bel hb)
          replace KS := Lib.hid (KS.out.bel hb)
          replace KM := Lib.hid (KM.out.bel hb)
          clear hb HB10
          have qG0 := KG.out.cell 0 rfl
          have qG1 := KG.out.cell 1 rfl
          have qG2 := KG.out.cell 2 rfl
          have qG3 := KG.out.cell 3 rfl
          have qS0 := KS.out.cell 0 rfl
          have qS1 := KS.out.cell 1 rfl
          have qS2 := KS.out.cell 2 rfl
          have qS3 := KS.out.cell 3 rfl
          have qM0 := KM.out.cell 0 rfl
          have qM1 := KM.out.cell 1 rfl
          have qM2 := KM.out.cell 2 rfl
          have qM3 := KM.out.cell 3 rfl
          go_wp2_with fail
          go_ret
          exact ⟨rfl, HB11.out⟩
        | some s =>
          by_cases hs : s.len < r.len
          · have he : findF (ins T r) a = some r := adds_found HTT.out HR9.out hl hh (fun x hx => by rw [ho] at hx; injection hx with hx; rw [← hx]; exact hs)
            have td : decide (s.len < r.len) = true := decide_eq_true hs
            rw [hh] at CH
            have t6 : ((r.at_ : Int) == (r.at_ : Int)) = true := by simp
            have t7 : (r.len == r.len) = true := by simp
            have t8 : (r.act == r.act) = true := by simp
            have t9 : (r.nxt == r.nxt) = true := by simp
            have F1x : Hid (∀ v w, IsR w v T → Calls Try.prog 12 #[v, .int .u32 (a : Int)] w fun e w' => e = .returned (.tuple #[.agg #[.int .u32 (s.at_ : Int), .int .i64 s.len, .int .i64 s.act, .int .i64 s.nxt], .bool true]) ∧ Below w.heap.size w w') := fun v w hv => by
              have h := F1.out v w hv
              rw [ho] at h
              exact h
            clear F1
            have F1 := F1x
            clear F1x
            have F2x : Hid (∀ v w, IsR w v (ins T r) → Calls Try.prog 12 #[v, .int .u32 (a : Int)] w fun e w' => e = .returned (.tuple #[.agg #[.int .u32 (r.at_ : Int), .int .i64 r.len, .int .i64 r.act, .int .i64 r.nxt], .bool true]) ∧ Below w.heap.size w w') := fun v w hv => by
              have h := F2.out v w hv
              rw [he] at h
              exact h
            clear F2
            have F2 := F2x
            clear F2x
            clear he ho hh hl
            go_wp2_with fail
            refine (F1.out _ wz VT.out.isr).mono ?_
            rintro e1 w7 ⟨rfl, hb⟩
            have HB7 := Lib.hid (HB6.out.trans (hb.mono HB6.out.size))
            replace VT := Lib.hid (VT.out.bel hb)
            replace KG := Lib.hid (KG.out.bel hb)
            replace VM := Lib.hid (VM.out.bel hb)
            clear hb HB6
            go_upto_region 6 with fail
            obtain ⟨w8, hW⟩ : ∃ W, w7.alloc (.cells #[.int .u32 (s.at_ : Int), .int .i64 s.len, .int .i64 s.act, .int .i64 s.nxt] 27) = W := ⟨_, rfl⟩
            obtain ⟨S, hG⟩ : ∃ G, w7.heap.size = G := ⟨_, rfl⟩
            rw [hW, hG]
            have hb : Below w7.heap.size w7 w8 := by subst hW; exact (Below.refl _ _).alloc (Nat.le_refl _) _
            have HB8 := Lib.hid (HB7.out.trans (hb.mono HB7.out.size))
            have LS : Hid (w.heap.size ≤ S) := by subst hG; exact HB7.out.size
            have NGS : Hid (G < S) := by subst hG; exact KG.out.size
            replace VT := Lib.hid (VT.out.bel hb)
            replace KG := Lib.hid (KG.out.bel hb)
            replace VM := Lib.hid (VM.out.bel hb)
            have KS : Hid (Blk S #[.int .u32 (s.at_ : Int), .int .i64 s.len, .int .i64 s.act, .int .i64 s.nxt] 27 w8) := by subst hW hG; exact Blk.new _ _ _
            clear hb hW hG HB7
            go_wp2_with fail
            refine (F2.out _ w8 VM.out.isr).mono ?_
            rintro e1 w9 ⟨rfl, hb⟩
            have HB9 := Lib.hid (HB8.out.trans (hb.mono HB8.out.size))
            replace VT := Lib.hid (VT.out.bel hb)
            replace KG := Lib.hid (KG.out.bel hb)
            replace VM := Lib.hid (VM.out.bel hb)
            replace KS := Lib.hid (KS.out.bel hb)
            clear hb HB8
            go_upto_region 7 with fail
            obtain ⟨w10, hW⟩ : ∃ W, w9.alloc (.cells #[.int .u32 (r.at_ : Int), .int .i64 r.len, .int .i64 r.act, .int .i64 r.nxt] 27) = W := ⟨_, rfl⟩
            obtain ⟨M, hG⟩ : ∃ G, w9.heap.size = G := ⟨_, rfl⟩
            rw [hW, hG]
            have hb : Below w9.heap.size w9 w10 := by subst hW; exact (Below.refl _ _).alloc (Nat.le_refl _) _
            have HB10 := Lib.hid (HB9.out.trans (hb.mono HB9.out.size))
            have LM : Hid (w.heap.size ≤ M) := by subst hG; exact HB9.out.size
            have NGM : Hid (G < M) := by subst hG; exact KG.out.size
            have NSM : Hid (S < M) := by subst hG; exact KS.out.size
            replace VT := Lib.hid (VT.out.bel hb)
            replace KG := Lib.hid (KG.out.bel hb)
            replace VM := Lib.hid (VM.out.bel hb)
            replace KS := Lib.hid (KS.out.bel hb)
            have KM : Hid (Blk M #[.int .u32 (r.at_ : Int), .int .i64 r.len, .int .i64 r.act, .int .i64 r.nxt] 27 w10) := by subst hW hG; exact Blk.new _ _ _
            clear hb hW hG HB9
            have qG0 := KG.out.cell 0 rfl
            have qG1 := KG.out.cell 1 rfl
            have qG2 := KG.out.cell 2 rfl
            have qG3 := KG.out.cell 3 rfl
            have qS0 := KS.out.cell 0 rfl
            have qS1 := KS.out.cell 1 rfl
            have qS2 := KS.out.cell 2 rfl
            have qS3 := KS.out.cell 3 rfl
            have qM0 := KM.out.cell 0 rfl
            have qM1 := KM.out.cell 1 rfl
            have qM2 := KM.out.cell 2 rfl
            have qM3 := KM.out.cell 3 rfl
            go_wp2_with fail
            refine (CH.out w10).mono ?_
            rintro e1 w11 ⟨rfl, hb⟩
            clear qG0 qG1 qG2 qG3 qS0 qS1 qS2 qS3 qM0 qM1 qM2 qM3
            have HB11 := Lib.hid (HB10.out.trans (hb.mono HB10.out.size))
            replace VT := Lib.hid (VT.out.bel hb)
            replace KG := Lib.hid (KG.out.bel hb)
            replace VM := Lib.hid (VM.out.bel hb)
            replace KS := Lib.hid (KS.out.bel hb)
            replace KM := Lib.hid (KM.out.bel hb)
            clear hb HB10
            have qG0 := KG.out.cell 0 rfl
            have qG1 := KG.out.cell 1 rfl
            have qG2 := KG.out.cell 2 rfl
            have qG3 := KG.out.cell 3 rfl
            have qS0 := KS.out.cell 0 rfl
            have qS1 := KS.out.cell 1 rfl
            have qS2 := KS.out.cell 2 rfl
            have qS3 := KS.out.cell 3 rfl
            have qM0 := KM.out.cell 0 rfl
            have qM1 := KM.out.cell 1 rfl
            have qM2 := KM.out.cell 2 rfl
            have qM3 := KM.out.cell 3 rfl
            go_wp2_with fail
            go_ret
            exact ⟨rfl, HB11.out⟩
          · have he : findF (ins T r) a = some s := (adds_else HTT.out HR9.out hl (fun _ => ⟨s, ho, by omega⟩)).trans ho
            have td : decide (s.len < r.len) = false := decide_eq_false hs
            rw [hh] at CH
            have t6 : ((s.at_ : Int) == (s.at_ : Int)) = true := by simp
            have t7 : (s.len == s.len) = true := by simp
            have t8 : (s.act == s.act) = true := by simp
            have t9 : (s.nxt == s.nxt) = true := by simp
            have F1x : Hid (∀ v w, IsR w v T → Calls Try.prog 12 #[v, .int .u32 (a : Int)] w fun e w' => e = .returned (.tuple #[.agg #[.int .u32 (s.at_ : Int), .int .i64 s.len, .int .i64 s.act, .int .i64 s.nxt], .bool true]) ∧ Below w.heap.size w w') := fun v w hv => by
              have h := F1.out v w hv
              rw [ho] at h
              exact h
            clear F1
            have F1 := F1x
            clear F1x
            have F2x : Hid (∀ v w, IsR w v (ins T r) → Calls Try.prog 12 #[v, .int .u32 (a : Int)] w fun e w' => e = .returned (.tuple #[.agg #[.int .u32 (s.at_ : Int), .int .i64 s.len, .int .i64 s.act, .int .i64 s.nxt], .bool true]) ∧ Below w.heap.size w w') := fun v w hv => by
              have h := F2.out v w hv
              rw [he] at h
              exact h
            clear F2
            have F2 := F2x
            clear F2x
            clear he ho hh hl
            go_wp2_with fail
            refine (F1.out _ wz VT.out.isr).mono ?_
            rintro e1 w7 ⟨rfl, hb⟩
            have HB7 := Lib.hid (HB6.out.trans (hb.mono HB6.out.size))
            replace VT := Lib.hid (VT.out.bel hb)
            replace KG := Lib.hid (KG.out.bel hb)
            replace VM := Lib.hid (VM.out.bel hb)
            clear hb HB6
            go_upto_region 6 with fail
            obtain ⟨w8, hW⟩ : ∃ W, w7.alloc (.cells #[.int .u32 (s.at_ : Int), .int .i64 s.len, .int .i64 s.act, .int .i64 s.nxt] 27) = W := ⟨_, rfl⟩
            obtain ⟨S, hG⟩ : ∃ G, w7.heap.size = G := ⟨_, rfl⟩
            rw [hW, hG]
            have hb : Below w7.heap.size w7 w8 := by subst hW; exact (Below.refl _ _).alloc (Nat.le_refl _) _
            have HB8 := Lib.hid (HB7.out.trans (hb.mono HB7.out.size))
            have LS : Hid (w.heap.size ≤ S) := by subst hG; exact HB7.out.size
            have NGS : Hid (G < S) := by subst hG; exact KG.out.size
            replace VT := Lib.hid (VT.out.bel hb)
            replace KG := Lib.hid (KG.out.bel hb)
            replace VM := Lib.hid (VM.out.bel hb)
            have KS : Hid (Blk S #[.int .u32 (s.at_ : Int), .int .i64 s.len, .int .i64 s.act, .int .i64 s.nxt] 27 w8) := by subst hW hG; exact Blk.new _ _ _
            clear hb hW hG HB7
            go_wp2_with fail
            refine (F2.out _ w8 VM.out.isr).mono ?_
            rintro e1 w9 ⟨rfl, hb⟩
            have HB9 := Lib.hid (HB8.out.trans (hb.mono HB8.out.size))
            replace VT := Lib.hid (VT.out.bel hb)
            replace KG := Lib.hid (KG.out.bel hb)
            replace VM := Lib.hid (VM.out.bel hb)
            replace KS := Lib.hid (KS.out.bel hb)
            clear hb HB8
            go_upto_region 7 with fail
            obtain ⟨w10, hW⟩ : ∃ W, w9.alloc (.cells #[.int .u32 (s.at_ : Int), .int .i64 s.len, .int .i64 s.act, .int .i64 s.nxt] 27) = W := ⟨_, rfl⟩
            obtain ⟨M, hG⟩ : ∃ G, w9.heap.size = G := ⟨_, rfl⟩
            rw [hW, hG]
            have hb : Below w9.heap.size w9 w10 := by subst hW; exact (Below.refl _ _).alloc (Nat.le_refl _) _
            have HB10 := Lib.hid (HB9.out.trans (hb.mono HB9.out.size))
            have LM : Hid (w.heap.size ≤ M) := by subst hG; exact HB9.out.size
            have NGM : Hid (G < M) := by subst hG; exact KG.out.size
            have NSM : Hid (S < M) := by subst hG; exact KS.out.size
            replace VT := Lib.hid (VT.out.bel hb)
            replace KG := Lib.hid (KG.out.bel hb)
            replace VM := Lib.hid (VM.out.bel hb)
            replace KS := Lib.hid (KS.out.bel hb)
            have KM : Hid (Blk M #[.int .u32 (s.at_ : Int), .int .i64 s.len, .int .i64 s.act, .int .i64 s.nxt] 27 w10) := by subst hW hG; exact Blk.new _ _ _
            clear hb hW hG HB9
            have qG0 := KG.out.cell 0 rfl
            have qG1 := KG.out.cell 1 rfl
            have qG2 := KG.out.cell 2 rfl
            have qG3 := KG.out.cell 3 rfl
            have qS0 := KS.out.cell 0 rfl
            have qS1 := KS.out.cell 1 rfl
            have qS2 := KS.out.cell 2 rfl
            have qS3 := KS.out.cell 3 rfl
            have qM0 := KM.out.cell 0 rfl
            have qM1 := KM.out.cell 1 rfl
            have qM2 := KM.out.cell 2 rfl
            have qM3 := KM.out.cell 3 rfl
            go_wp2_with fail
            refine (CH.out w10).mono ?_
            rintro e1 w11 ⟨rfl, hb⟩
            clear qG0 qG1 qG2 qG3 qS0 qS1 qS2 qS3 qM0 qM1 qM2 qM3
            have HB11 := Lib.hid (HB10.out.trans (hb.mono HB10.out.size))
            replace VT := Lib.hid (VT.out.bel hb)
            replace KG := Lib.hid (KG.out.bel hb)
            replace VM := Lib.hid (VM.out.bel hb)
            replace KS := Lib.hid (KS.out.bel hb)
            replace KM := Lib.hid (KM.out.bel hb)
            clear hb HB10
            have qG0 := KG.out.cell 0 rfl
            have qG1 := KG.out.cell 1 rfl
            have qG2 := KG.out.cell 2 rfl
            have qG3 := KG.out.cell 3 rfl
            have qS0 := KS.out.cell 0 rfl
            have qS1 := KS.out.cell 1 rfl
            have qS2 := KS.out.cell 2 rfl
            have qS3 := KS.out.cell 3 rfl
            have qM0 := KM.out.cell 0 rfl
            have qM1 := KM.out.cell 1 rfl
            have qM2 := KM.out.cell 2 rfl
            have qM3 := KM.out.cell 3 rfl
            go_wp2_with fail
            go_ret
            exact ⟨rfl, HB11.out⟩
end Go.Proofs.Ytenkpoppbjgclaa
