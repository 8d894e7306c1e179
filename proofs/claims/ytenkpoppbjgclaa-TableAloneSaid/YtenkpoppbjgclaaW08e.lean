/- The walk of theseuslaw08.TableAlone. -/
import Derived.Test.YtenkpoppbjgclaaL08
import Derived.Test.YtenkpoppbjgclaaRef08t
import Derived.Test.YtenkpoppbjgclaaOwnR
import Derived.Test.YtenkpoppbjgclaaTblLaws
import Derived.Deep.DeepCutAuto
import Derived.Deep.RegionHeld3
import Derived.BigQuiet
namespace Go.Proofs.Ytenkpoppbjgclaa
open Go.RowKit
set_option linter.unusedVariables false
set_option linter.unusedSimpArgs false

attribute [local go_sem ↓] sliced_cut
attribute [local go_sem] cutA_zero
theorem fit9e (v : Value) (l : List Rl) (w : World) (hv : IsR w v l) (hwf : ∀ r ∈ l, r.at_ ≤ 4294967295) :
    Calls Try.prog 18 #[v, .int .i64 9] w fun e w' => ∃ r, e = .returned r ∧ w'.ownsRow w.heap.size 27 4 r (fitT 9 l).length (rcells (fitT 9 l)) ∧ Below w.heap.size w w' := rfitT_any v l 9 w hv hwf (by decide) (by decide)
theorem fitR9e (r : Rl) (w : World) (ha : (r.at_ : Int) ≤ 4294967295) :
    Calls Try.prog 21 #[.agg #[.int .u32 (r.at_ : Int), .int .i64 r.len, .int .i64 r.act, .int .i64 r.nxt], .int .i64 9] w fun e w' =>
      e = .returned (.agg #[.int .u32 ((fitRl 9 r).at_ : Int), .int .i64 (fitRl 9 r).len, .int .i64 (fitRl 9 r).act, .int .i64 (fitRl 9 r).nxt]) ∧ Below w.heap.size w w' := fitR_any r 9 w ha (by decide) (by decide)
theorem isr_one {w : World} {g : Nat} {t : TypeId} {r : Rl} (h : Blk g #[.int .u32 (r.at_ : Int), .int .i64 r.len, .int .i64 r.act, .int .i64 r.nxt] t w) : IsR w (.slice (some ⟨g, 0, none⟩) 1 1) [r] := by
  refine ⟨some ⟨g, 0, none⟩, 1, 1, rfl, Nat.le_refl _, by unfold maxLen; omega, rfl, fun _ => ⟨_, rfl, fun j u hu => ?_⟩⟩
  rw [add_plain, Nat.zero_add, Joins.cell_of_block h j, ← hu]
  simp [rcells, rcell]
theorem isr_nil (w : World) : IsR w (.slice none 0 0) [] := ⟨none, 0, 0, rfl, Nat.le_refl _, Nat.zero_le _, rfl, Has.nil_ _ _⟩
def isAll (l : List Rl) : Bool := match l with
  | [] => false
  | r :: _ => decide (r.at_ = 0 ∧ r.len = 0)
theorem isAll_yes {l : List Rl} (h : isAll l = true) : withAll l = allR :: l.drop 1 ∧ 1 ≤ l.length := by
  cases l with
  | nil => cases h
  | cons r t =>
    rw [withAll_cons, if_pos (by simpa [isAll] using h)]
    exact ⟨rfl, by simp⟩
theorem isAll_no {l : List Rl} (h : isAll l = false) : withAll l = allR :: l := by
  cases l with
  | nil => rfl
  | cons r t => rw [withAll_cons, if_neg (by simpa [isAll] using h)]
theorem isAll_at {l : List Rl} (h : 0 < l.length) : isAll l = decide (l[0].at_ = 0 ∧ l[0].len = 0) := by
  cases l with
  | nil => simp at h
  | cons r t => rfl
theorem find_one_yes {r : Rl} {a : Nat} (h : holdR r a = true) : findF [r] a = some r := by
  show stepF a none r = _
  exact step_first h
theorem find_one_no {r : Rl} {a : Nat} (h : holdR r a = false) : findF [r] a = none := by
  show stepF a none r = _
  exact step_not h
set_option maxRecDepth 100000 in
set_option maxHeartbeats 8000000 in
theorem walkTableAlone (a0 b0 c0 e0 : Int) (a1 : Option Addr) (n1 c1 : Nat) (l1 : List Rl) (a2 : Int) (w : World) (w0 : (Lit.int .u32 a0).wf = true) (x0 : (Lit.int .i64 b0).wf = true) (y0 : (Lit.int .i64 c0).wf = true) (z0 : (Lit.int .i64 e0).wf = true) (w1 : InR w a1 n1 c1 l1) (w2 : (Lit.int .u32 a2).wf = true) :
    Calls Try.prog 7 #[.agg #[.int .u32 a0, .int .i64 b0, .int .i64 c0, .int .i64 e0], .slice a1 n1 c1, .int .u32 a2] w fun e w' => e = .returned (.bool true) ∧ Below w.heap.size w w' := by
  obtain ⟨hl0, hh0⟩ := bounds_u32 w0
  obtain ⟨b, rfl⟩ := Int.eq_ofNat_of_zero_le hl0
  have hb : (b : Int) ≤ 4294967295 := by omega
  clear w0 hl0 hh0 x0 y0 z0
  obtain ⟨hl2, hh2⟩ := bounds_u32 w2
  obtain ⟨a, rfl⟩ := Int.eq_ofNat_of_zero_le hl2
  have ha : (a : Int) ≤ 4294967295 := by omega
  clear w2 hl2 hh2
  have w3 := w1.first 19
  have hat := w3.at_
  have VR := Lib.hid w3.isr
  obtain ⟨N, hN⟩ : ∃ N, min n1 19 = N := ⟨_, rfl⟩
  have hNm : (min (n1 : Int) 19).toNat = N := by omega
  have hn0 : (n1 : Int) ≤ 9223372036854775807 := by have := w1.cap; have := w1.max; unfold maxLen at this; omega
  have hmz : (0 : Int) ≤ min (n1 : Int) 19 := by omega
  have hmc : min (n1 : Int) 19 ≤ (c1 : Int) := by have := w1.cap; omega
  rw [hN] at VR
  have hl19 : (l1.take 19).length ≤ 19 := List.length_take_le _ _
  generalize l1.take 19 = L at *
  have FT := Lib.hid (fun w hv => fit9e (.slice a1 N c1) L w hv hat)
  have FR := Lib.hid (fun w => fitR9e ⟨b, b0, c0, e0⟩ w hb)
  have hT := fitT_tbl 9 L (by omega)
  have hTl := fitT_len 9 L
  have hTat := Tbl.at_ (m := 9) hat
  have hTl2 : (fitT 9 L).length ≤ 19 := by omega
  generalize fitT 9 L = T at *
  have hrat : (fitRl 9 ⟨b, b0, c0, e0⟩).at_ ≤ 4294967295 := Nat.le_trans (fitRl_at 9 _) (by show b ≤ _; omega)
  generalize fitRl 9 ⟨b, b0, c0, e0⟩ = r at *
  obtain ⟨NT, hNT⟩ : ∃ NT, T.length = NT := ⟨_, rfl⟩
  have HNT := Lib.hid hNT
  have hNT2 : (NT : Int) ≤ 19 := by omega
  have HRI := Lib.hid rule_info
  obtain ⟨t, ht⟩ : ∃ t, isAll T = t := ⟨_, rfl⟩
  have HALL := Lib.hid ht
  have haa : a < 4294967296 := by omega
  have hWt := withAll_tbl hT
  have hWat : ∀ x ∈ withAll T, x.at_ ≤ 4294967295 := fun x hx => by
    by_cases hz : x.at_ = 0 ∧ x.len = 0
    · omega
    · exact hTat x ((withAll_mem hT x hz).1 hx)
  have HPL := Lib.hid (fun hp => alone_plain hT haa hp)
  have HFO := Lib.hid (fun s e hs => alone_found (s := s) hT haa e hs)
  have HTA := Lib.hid hTat
  obtain ⟨M, hM⟩ : ∃ M, withAll T = M := ⟨_, rfl⟩
  have HWA := Lib.hid hM
  rw [hM] at HPL HFO hWt hWat
  have F0 := Lib.hid (fun v w hv => tfind_any v [r] a w hv ha (fun x hx => by rw [List.mem_singleton.1 hx]; exact hrat))
  have FN := Lib.hid (fun w => tfind_none (.slice none 0 0) [] a w (isr_nil w) ha (by simp) rfl)
  have F1 := Lib.hid (fun v w hv => tfind_any v M a w hv ha hWat)
  have X1 := Lib.hid (fun v w hv => tnext_any v M a w hv ha hWat)
  have F2 := Lib.hid (fun v w hv => tfind_any v T a w hv ha hTat)
  have CH := Lib.hid (fun w => holds_any r.at_ a r.len w (by omega) ha)
  rw [show holdB r.at_ (cl r.len) a = holdR r a from rfl] at CH
  have FM : Hid (∀ v w, IsR w v M → Calls Try.prog 16 #[v, .int .i64 9] w fun e w' => e = .returned (.int .i64 0) ∧ Below w.heap.size w w') := fun v w hv => by
    have h := tmay_any v M 9 w hv hWat
    rw [mayT_ok.2 ⟨hWt.ok, hWt.ord⟩] at h
    exact h
  clear hNT hl19 hTl hTl2 hTat hT hN w3 w1 hWt hWat hat ht hM haa
  have HB0 := Lib.hid (Below.refl w.heap.size w)
  go_enter Try.func7, Try.ntmps7
  go_wp2_with fail
  obtain ⟨w1, hW⟩ : ∃ W, w.alloc (.cells #[.int .u32 (b : Int), .int .i64 b0, .int .i64 c0, .int .i64 e0] 27) = W := ⟨_, rfl⟩
  obtain ⟨g, hG⟩ : ∃ G, w.heap.size = G := ⟨_, rfl⟩
  rw [hW, hG]
  have hb : Below w.heap.size w w1 := by subst hW; exact (Below.refl _ _).alloc (Nat.le_refl _) _
  have HB1 := Lib.hid (HB0.out.trans (hb.mono HB0.out.size))
  have Lg : Hid (w.heap.size ≤ g) := by subst hG; exact HB0.out.size
  replace VR := Lib.hid (VR.out.bel hb)
  have Kg : Hid (Blk g #[.int .u32 (b : Int), .int .i64 b0, .int .i64 c0, .int .i64 e0] 27 w1) := by subst hW hG; exact Blk.new _ _ _
  clear hb hW hG HB0
  refine (shown8 w1).mono ?_
  rintro e1 w2 ⟨rfl, hb⟩
  have HB2 := Lib.hid (HB1.out.trans (hb.mono HB1.out.size))
  replace VR := Lib.hid (VR.out.bel hb)
  replace Kg := Lib.hid (Kg.out.bel hb)
  clear hb HB1
  have qg0 := Kg.out.cell 0 rfl
  have qg1 := Kg.out.cell 1 rfl
  have qg2 := Kg.out.cell 2 rfl
  have qg3 := Kg.out.cell 3 rfl
  go_wp2_with fail
  refine (FR.out w2).mono ?_
  rintro e1 w3 ⟨rfl, hb⟩
  clear qg0 qg1 qg2 qg3
  have HB3 := Lib.hid (HB2.out.trans (hb.mono HB2.out.size))
  replace VR := Lib.hid (VR.out.bel hb)
  replace Kg := Lib.hid (Kg.out.bel hb)
  clear hb HB2
  clear Kg
  go_upto_region 3 with fail
  obtain ⟨w4, hW⟩ : ∃ W, w3.alloc (.cells #[.int .u32 (r.at_ : Int), .int .i64 r.len, .int .i64 r.act, .int .i64 r.nxt] 27) = W := ⟨_, rfl⟩
  obtain ⟨G, hG⟩ : ∃ G, w3.heap.size = G := ⟨_, rfl⟩
  rw [hW, hG]
  have hb : Below w3.heap.size w3 w4 := by subst hW; exact (Below.refl _ _).alloc (Nat.le_refl _) _
  have HB4 := Lib.hid (HB3.out.trans (hb.mono HB3.out.size))
  have LG : Hid (w.heap.size ≤ G) := by subst hG; exact HB3.out.size
  replace VR := Lib.hid (VR.out.bel hb)
  have KG : Hid (Blk G #[.int .u32 (r.at_ : Int), .int .i64 r.len, .int .i64 r.act, .int .i64 r.nxt] 27 w4) := by subst hW hG; exact Blk.new _ _ _
  clear hb hW hG HB3
  clear FR
  have qG0 := KG.out.cell 0 rfl
  have qG1 := KG.out.cell 1 rfl
  have qG2 := KG.out.cell 2 rfl
  have qG3 := KG.out.cell 3 rfl
  go_wp2_with fail
  obtain ⟨w5, hW⟩ : ∃ W, w4.alloc (.cells #[.int .u32 (r.at_ : Int), .int .i64 r.len, .int .i64 r.act, .int .i64 r.nxt] 27) = W := ⟨_, rfl⟩
  obtain ⟨E, hG⟩ : ∃ G, w4.heap.size = G := ⟨_, rfl⟩
  rw [hW, hG]
  have hb : Below w4.heap.size w4 w5 := by subst hW; exact (Below.refl _ _).alloc (Nat.le_refl _) _
  have HB5 := Lib.hid (HB4.out.trans (hb.mono HB4.out.size))
  have LE : Hid (w.heap.size ≤ E) := by subst hG; exact HB4.out.size
  clear qG0 qG1 qG2 qG3
  have NGE : Hid (G < E) := by subst hG; exact KG.out.size
  replace VR := Lib.hid (VR.out.bel hb)
  replace KG := Lib.hid (KG.out.bel hb)
  have KE : Hid (Blk E #[.int .u32 (r.at_ : Int), .int .i64 r.len, .int .i64 r.act, .int .i64 r.nxt] 27 w5) := by subst hW hG; exact Blk.new _ _ _
  clear hb hW hG HB4
  obtain ⟨f, hf⟩ : ∃ o, findF [r] a = o := ⟨_, rfl⟩
  have HF := Lib.hid hf
  rw [hf] at F0
  obtain ⟨s, hs⟩ : ∃ x, foundR f = x := ⟨_, rfl⟩
  have HS := Lib.hid hs
  rw [hs] at F0
  obtain ⟨ok, hok⟩ : ∃ x, f.isSome = x := ⟨_, rfl⟩
  have HOK := Lib.hid hok
  rw [hok] at F0
  clear hf hs hok
  refine (F0.out _ w5 (isr_one KE.out)).mono ?_
  rintro e1 w6 ⟨rfl, hb⟩
  have HB6 := Lib.hid (HB5.out.trans (hb.mono HB5.out.size))
  replace VR := Lib.hid (VR.out.bel hb)
  replace KG := Lib.hid (KG.out.bel hb)
  replace KE := Lib.hid (KE.out.bel hb)
  clear hb HB5
  clear KE
  go_upto_region 4 with fail
  obtain ⟨w7, hW⟩ : ∃ W, w6.alloc (.cells #[.int .u32 (s.at_ : Int), .int .i64 s.len, .int .i64 s.act, .int .i64 s.nxt] 27) = W := ⟨_, rfl⟩
  obtain ⟨S, hG⟩ : ∃ G, w6.heap.size = G := ⟨_, rfl⟩
  rw [hW, hG]
  have hb : Below w6.heap.size w6 w7 := by subst hW; exact (Below.refl _ _).alloc (Nat.le_refl _) _
  have HB7 := Lib.hid (HB6.out.trans (hb.mono HB6.out.size))
  have LS : Hid (w.heap.size ≤ S) := by subst hG; exact HB6.out.size
  have NGS : Hid (G < S) := by subst hG; exact KG.out.size
  replace VR := Lib.hid (VR.out.bel hb)
  replace KG := Lib.hid (KG.out.bel hb)
  have KS : Hid (Blk S #[.int .u32 (s.at_ : Int), .int .i64 s.len, .int .i64 s.act, .int .i64 s.nxt] 27 w7) := by subst hW hG; exact Blk.new _ _ _
  clear hb hW hG HB6
  go_wp2_with fail
  refine (FN.out w7).mono ?_
  rintro e1 w8 ⟨rfl, hb⟩
  have HB8 := Lib.hid (HB7.out.trans (hb.mono HB7.out.size))
  replace VR := Lib.hid (VR.out.bel hb)
  replace KG := Lib.hid (KG.out.bel hb)
  replace KS := Lib.hid (KS.out.bel hb)
  clear hb HB7
  go_upto_region 5 with fail
  obtain ⟨w9, hW⟩ : ∃ W, w8.alloc (.cells #[.int .u32 0, .int .i64 0, .int .i64 0, .int .i64 0] 27) = W := ⟨_, rfl⟩
  obtain ⟨Y, hG⟩ : ∃ G, w8.heap.size = G := ⟨_, rfl⟩
  rw [hW, hG]
  have hb : Below w8.heap.size w8 w9 := by subst hW; exact (Below.refl _ _).alloc (Nat.le_refl _) _
  have HB9 := Lib.hid (HB8.out.trans (hb.mono HB8.out.size))
  have LY : Hid (w.heap.size ≤ Y) := by subst hG; exact HB8.out.size
  have NGY : Hid (G < Y) := by subst hG; exact KG.out.size
  have NSY : Hid (S < Y) := by subst hG; exact KS.out.size
  replace VR := Lib.hid (VR.out.bel hb)
  replace KG := Lib.hid (KG.out.bel hb)
  replace KS := Lib.hid (KS.out.bel hb)
  have KY : Hid (Blk Y #[.int .u32 0, .int .i64 0, .int .i64 0, .int .i64 0] 27 w9) := by subst hW hG; exact Blk.new _ _ _
  clear hb hW hG HB8
  go_wp2_with fail
  refine (FT.out w9 VR.out).mono ?_
  rintro e1 w10 ⟨tv, rfl, hown, hb⟩
  have HB10 := Lib.hid (HB9.out.trans (hb.mono HB9.out.size))
  replace VR := Lib.hid (VR.out.bel hb)
  replace KG := Lib.hid (KG.out.bel hb)
  replace KS := Lib.hid (KS.out.bel hb)
  replace KY := Lib.hid (KY.out.bel hb)
  have VT := Lib.hid (OwnR.mk hown (Nat.le_refl _))
  clear hb HB9
  clear hown FT FN F0
  clear VR
  obtain ⟨AT, cT, rfl, hTc, hTm, _⟩ := VT.out.isr.slice
  rw [HNT.out] at hTc
  have hTc2 : (NT : Int) ≤ (cT : Int) := by omega
  simp only [HNT.out] at VT ⊢
  clear hTc
  go_upto_region 7 with fail
  obtain ⟨w11, hW⟩ : ∃ W, w10.alloc (.cells #[.int .u32 0, .int .i64 0, .int .i64 1, .int .i64 8] 27) = W := ⟨_, rfl⟩
  obtain ⟨A, hG⟩ : ∃ G, w10.heap.size = G := ⟨_, rfl⟩
  rw [hW, hG]
  have hb : Below w10.heap.size w10 w11 := by subst hW; exact (Below.refl _ _).alloc (Nat.le_refl _) _
  have HB11 := Lib.hid (HB10.out.trans (hb.mono HB10.out.size))
  have LA : Hid (w.heap.size ≤ A) := by subst hG; exact HB10.out.size
  have NGA : Hid (G < A) := by subst hG; exact KG.out.size
  have NSA : Hid (S < A) := by subst hG; exact KS.out.size
  have NYA : Hid (Y < A) := by subst hG; exact KY.out.size
  replace KG := Lib.hid (KG.out.bel hb)
  replace KS := Lib.hid (KS.out.bel hb)
  replace KY := Lib.hid (KY.out.bel hb)
  replace VT := Lib.hid (VT.out.bel hb)
  have KA : Hid (Blk A #[.int .u32 0, .int .i64 0, .int .i64 1, .int .i64 8] 27 w11) := by subst hW hG; exact Blk.new _ _ _
  clear hb hW hG HB10
  have qA0 := KA.out.cell 0 rfl
  have qA1 := KA.out.cell 1 rfl
  have qA2 := KA.out.cell 2 rfl
  have qA3 := KA.out.cell 3 rfl
  obtain ⟨i0, hi0, hz0, hz1, hz2⟩ := info_parts HRI.out
  have ol1 : Hid ((w11.alloc (.cells #[.int .u32 0, .int .i64 0, .int .i64 1, .int .i64 8] 27)).ownsRow w11.heap.size 27 4 (.slice (some ⟨w11.heap.size, 0, none⟩) 1 1) 1 (rcells [allR])) := World.ownsRow_lit (e := 27) (size := 4) w11 #[.int .u32 0, .int .i64 0, .int .i64 1, .int .i64 8] 1 (Nat.le_refl _) (by decide) rfl
  have HRH : Hid (Has (w11.alloc (.cells #[.int .u32 0, .int .i64 0, .int .i64 1, .int .i64 8] 27)) AT (rcells T)) := VT.out.isr.has'.bel ((Below.refl _ _).alloc (Nat.le_refl _) _)
  have HRL2 : Hid ((rcells T).length = NT * 4) := by show _ = _; rw [rcells_length, HNT.out]
  go_upto_region 8 with (first
    | (at_builtin; refine wpList_append4 _ rfl (.tmp 46) (.tmp 47) _ rfl w11.heap.size 27 i0 (.agg #[.int .u32 0, .int .i64 0, .int .i64 0, .int .i64 0]) 32 Try.underlying22 hi0 hz0 hz1 hz2 rfl _ 1 (rcells [allR]) rfl ol1.out AT NT _ (rcells T) rfl HRL2.out HRH.out (rcells_one _) (by unfold maxLen; omega) (by omega) (by simp only [World.size_alloc]; omega) ?_; intro v4 y4 hown4 hgrow4 _; have HO4 := Lib.hid hown4; have HG4 := Lib.hid hgrow4; clear hown4 hgrow4))
  have hb : Below w11.heap.size w11 y4 := ((Below.refl w11.heap.size w11).alloc (Nat.le_refl _) (.cells #[.int .u32 0, .int .i64 0, .int .i64 1, .int .i64 8] 27)).grown HG4.out (by simp only [World.size_alloc]; omega) (fun q hq => (ol1.out.lt q hq).1)
  have VF : Hid (IsR y4 v4 (allR :: T)) := by
    have h := HO4.out
    rw [← rcells_append] at h
    exact IsR.of_own h
  clear qA0 qA1 qA2 qA3
  have HB12 := Lib.hid (HB11.out.trans (hb.mono HB11.out.size))
  replace KG := Lib.hid (KG.out.bel hb)
  replace KS := Lib.hid (KS.out.bel hb)
  replace KY := Lib.hid (KY.out.bel hb)
  replace VT := Lib.hid (VT.out.bel hb)
  replace KA := Lib.hid (KA.out.bel hb)
  clear HB11 hb HO4 HG4 ol1 HRH HRL2
  go_cut [65] (fun x wx => x = .bool t ∧ wx = y4)
  case first =>
    rcases (by omega : NT = 0 ∨ 0 < NT) with hn | hn
    · subst hn
      have hd1 : decide ((((0 : Nat) : Int)) > 0) = false := by decide
      have hd2 : decide ((0 : Int) < ((0 : Nat) : Int)) = false := by decide
      have ht : t = false := by
        have h := HNT.out
        rw [← HALL.out, List.eq_nil_of_length_eq_zero h]
        rfl
      subst ht
      go_wp2_with fail
      go_meet
      exact ⟨rfl, rfl⟩
    · have hd1 : decide ((NT : Int) > 0) = true := decide_eq_true (by omega)
      have hd2 : decide ((0 : Int) < (NT : Int)) = true := decide_eq_true (by omega)
      have hd3 : decide (0 < NT) = true := decide_eq_true (by omega)
      have hdz : (0 : Int) < (NT : Int) := by omega
      have hl0 : 0 < T.length := by rw [HNT.out]; exact hn
      have hTT := VT.out.isr.has'
      obtain ⟨ad, rfl, _⟩ := hTT (by rw [rcells_length]; omega)
      obtain ⟨f0, f1, f2, f3⟩ := hTT.four 0 hl0
      rw [Nat.zero_mul, addr_zero] at f0 f1 f2 f3
      have hi := isAll_at hl0
      rw [HALL.out] at hi
      clear hTT
      generalize T[0] = rk at *
      by_cases h1 : rk.at_ = 0
      · have t1 : ((rk.at_ : Int) == 0) = true := by rw [h1]; rfl
        by_cases h2 : rk.len = 0
        · have t2 : (rk.len == 0) = true := by rw [h2]; rfl
          have ht : t = true := by rw [hi]; exact decide_eq_true ⟨h1, h2⟩
          subst ht
          clear hi h1 h2
          go_wp2_with fail
          go_meet
          exact ⟨rfl, rfl⟩
        · have t2 : (rk.len == 0) = false := by rw [beq_eq_false_iff_ne]; exact h2
          have ht : t = false := by rw [hi]; exact decide_eq_false (fun h => h2 h.2)
          subst ht
          clear hi h1 h2
          go_wp2_with fail
          go_meet
          exact ⟨rfl, rfl⟩
      · have t1 : ((rk.at_ : Int) == 0) = false := by rw [beq_eq_false_iff_ne]; omega
        have ht : t = false := by rw [hi]; exact decide_eq_false (fun h => h1 h.1)
        subst ht
        clear hi h1
        go_wp2_with fail
        go_meet
        exact ⟨rfl, rfl⟩
  case rest =>
    obtain ⟨rfl, hw⟩ := hcut
    rw [hw]
    clear hw wc
    go_upto_if 65 with fail
    go_cut [15] (fun v wx => Hid (IsR wx v M) ∧ Hid (Below y4.heap.size y4 wx))
    case first =>
      cases t with
      | false =>
        have hM := isAll_no HALL.out
        rw [HWA.out] at hM
        have HV : Hid (IsR y4 v4 M) := by rw [hM]; exact VF.out
        clear hM
        go_wp2_with fail
        go_meet
        exact ⟨HV, Below.refl _ _⟩
      | true =>
        obtain ⟨hM, hM1⟩ := isAll_yes HALL.out
        rw [HWA.out] at hM
        rw [HNT.out] at hM1
        have HM := Lib.hid hM
        clear hM
        have h1N : (1 : Int) ≤ (NT : Int) := by omega
        have h1c : (1 : Int) ≤ (cT : Int) := by omega
        have HSk : Hid (∀ wx, Below y4.heap.size y4 wx → wx.cell? ⟨A, 0, none⟩ = some (.int .u32 0) ∧ wx.cell? ⟨A, 1, none⟩ = some (.int .i64 0) ∧ wx.cell? ⟨A, 2, none⟩ = some (.int .i64 1) ∧ wx.cell? ⟨A, 3, none⟩ = some (.int .i64 8)) := fun wx hx => ⟨(KA.out.bel hx).cell 0 rfl, (KA.out.bel hx).cell 1 rfl, (KA.out.bel hx).cell 2 rfl, (KA.out.bel hx).cell 3 rfl⟩
        obtain ⟨k0, k1, k2, k3⟩ := HSk.out y4 (Below.refl _ _)
        have ol : Hid ((y4.alloc (.cells #[.int .u32 0, .int .i64 0, .int .i64 1, .int .i64 8] 27)).ownsRow y4.heap.size 27 4 (.slice (some ⟨y4.heap.size, 0, none⟩) 1 1) 1 (rcells [allR])) := World.ownsRow_lit (e := 27) (size := 4) y4 #[.int .u32 0, .int .i64 0, .int .i64 1, .int .i64 8] 1 (Nat.le_refl _) (by decide) rfl
        have HCU : Hid (Has y4 (cutA AT cT 1 4) (rcells (T.drop 1))) := VT.out.isr.has'.cutR (by rw [HNT.out]; omega)
        have HDL : Hid ((rcells (T.drop 1)).length = (NT - 1) * 4) := by show _ = _; rw [rcells_length, List.length_drop, HNT.out]
        go_upto_region 9 with fail
        go_region_held3 (fun w' => w'.cell? ⟨A, 0, none⟩ = some (.int .u32 0) ∧ w'.cell? ⟨A, 1, none⟩ = some (.int .i64 0) ∧ w'.cell? ⟨A, 2, none⟩ = some (.int .i64 1) ∧ w'.cell? ⟨A, 3, none⟩ = some (.int .i64 8))
          (first | go_keep | exact HSk.out _ (((Below.refl _ _).alloc (Nat.le_refl _) _).drew) | exact HSk.out _ ((((Below.refl _ _).alloc (Nat.le_refl _) _).drew).grown hgrow3 (by simp) (fun q hq => (ol.out.lt q hq).1)))
          (first
            | ((refine step_append4 _ (by rfl) (.tmp 67) (.tmp 69) _ (by rfl) y4.heap.size 27 i0 (.agg #[.int .u32 0, .int .i64 0, .int .i64 0, .int .i64 0]) 32 Try.underlying22 hi0 hz0 hz1 hz2 rfl (.slice (some ⟨y4.heap.size, 0, none⟩) 1 1) 1 (rcells [allR]) (by rfl) ol.out.drew (cutA AT cT 1 4) (NT - 1) _ (rcells (T.drop 1)) (by rfl) HDL.out (HCU.out.alloc _).drew (rcells_one _) (by unfold maxLen; omega) (by omega) (by simp) ?_
                intro v3 y3 hown3 hgrow3 hat3)))
        all_goals
          have HV : Hid (IsR y3 v3 M) := by
            have h := hown3
            rw [← rcells_append] at h
            rw [HM.out]
            exact IsR.of_own h
          have hb3 : Hid (Below y4.heap.size y4 y3) := (((Below.refl y4.heap.size y4).alloc (Nat.le_refl _) _).drew).grown hgrow3 (by simp) (fun q hq => (ol.out.lt q hq).1)
          clear hown3 hgrow3 hat3
          go_wp2_with fail
          go_meet
          exact ⟨HV, hb3⟩
    case rest =>
      obtain ⟨VM, HBc⟩ := hcut
      generalize wc = wz at *
      have hb := HBc.out
      clear VF
      have HB13 := Lib.hid (HB12.out.trans (hb.mono HB12.out.size))
      replace KG := Lib.hid (KG.out.bel hb)
      replace KS := Lib.hid (KS.out.bel hb)
      replace KY := Lib.hid (KY.out.bel hb)
      replace VT := Lib.hid (VT.out.bel hb)
      replace KA := Lib.hid (KA.out.bel hb)
      clear HB12 hb HBc hi0 hz0 hz1 hz2
      obtain ⟨AM, cM, rfl, _, _, _⟩ := VM.out.slice
      obtain ⟨NM, hNM⟩ : ∃ n, M.length = n := ⟨_, rfl⟩
      simp only [hNM] at VM ⊢
      clear hNM
      cases hh : holdR r a with
      | false =>
        have e := find_one_no hh
        rw [HF.out] at e
        subst e
        have e2 : s = ⟨0, 0, 0, 0⟩ := HS.out.symm
        subst e2
        have e3 : ok = false := HOK.out.symm
        subst e3
        rw [hh] at CH
        clear hh HS HOK HF
        cases ho : findF T a with
        | none =>
          have he := HPL.out (fun s hs => by rw [ho] at hs; cases hs)
          have F1x : Hid (∀ v w, IsR w v M → Calls Try.prog 12 #[v, .int .u32 (a : Int)] w fun e w' => e = .returned (.tuple #[.agg #[.int .u32 0, .int .i64 0, .int .i64 1, .int .i64 8], .bool true]) ∧ Below w.heap.size w w') := fun v w hv => by
            have h := F1.out v w hv
            rw [he] at h
            exact h
          clear F1
          have F1 := F1x
          clear F1x
          have X1x : Hid (∀ v w, IsR w v M → Calls Try.prog 14 #[v, .int .u32 (a : Int)] w fun e w' => e = .returned (.tuple #[.int .i64 8, .bool true]) ∧ Below w.heap.size w w') := fun v w hv => by
            have h := X1.out v w hv
            rw [he] at h
            exact h
          clear X1
          have X1 := X1x
          clear X1x
          have F2x : Hid (∀ v w, IsR w v T → Calls Try.prog 12 #[v, .int .u32 (a : Int)] w fun e w' => e = .returned (.tuple #[.agg #[.int .u32 0, .int .i64 0, .int .i64 0, .int .i64 0], .bool false]) ∧ Below w.heap.size w w') := fun v w hv => by
            have h := F2.out v w hv
            rw [ho] at h
            exact h
          clear F2
          have F2 := F2x
          clear F2x
          clear he ho HPL HFO
          go_wp2_with fail
          refine (F1.out _ wz VM.out).mono ?_
          rintro e1 w14 ⟨rfl, hb⟩
          have HB14 := Lib.hid (HB13.out.trans (hb.mono HB13.out.size))
          replace KG := Lib.hid (KG.out.bel hb)
          replace KS := Lib.hid (KS.out.bel hb)
          replace KY := Lib.hid (KY.out.bel hb)
          replace VT := Lib.hid (VT.out.bel hb)
          replace KA := Lib.hid (KA.out.bel hb)
          replace VM := Lib.hid (VM.out.bel hb)
          clear hb HB13
          go_upto_region 11 with fail
          obtain ⟨w15, hW⟩ : ∃ W, w14.alloc (.cells #[.int .u32 0, .int .i64 0, .int .i64 1, .int .i64 8] 27) = W := ⟨_, rfl⟩
          obtain ⟨U, hG⟩ : ∃ G, w14.heap.size = G := ⟨_, rfl⟩
          rw [hW, hG]
          have hb : Below w14.heap.size w14 w15 := by subst hW; exact (Below.refl _ _).alloc (Nat.le_refl _) _
          have HB15 := Lib.hid (HB14.out.trans (hb.mono HB14.out.size))
          have LU : Hid (w.heap.size ≤ U) := by subst hG; exact HB14.out.size
          have NGU : Hid (G < U) := by subst hG; exact KG.out.size
          have NSU : Hid (S < U) := by subst hG; exact KS.out.size
          have NYU : Hid (Y < U) := by subst hG; exact KY.out.size
          have NAU : Hid (A < U) := by subst hG; exact KA.out.size
          replace KG := Lib.hid (KG.out.bel hb)
          replace KS := Lib.hid (KS.out.bel hb)
          replace KY := Lib.hid (KY.out.bel hb)
          replace VT := Lib.hid (VT.out.bel hb)
          replace KA := Lib.hid (KA.out.bel hb)
          replace VM := Lib.hid (VM.out.bel hb)
          have KU : Hid (Blk U #[.int .u32 0, .int .i64 0, .int .i64 1, .int .i64 8] 27 w15) := by subst hW hG; exact Blk.new _ _ _
          clear hb hW hG HB14
          go_wp2_with fail
          refine (F2.out _ w15 VT.out.isr).mono ?_
          rintro e1 w16 ⟨rfl, hb⟩
          have HB16 := Lib.hid (HB15.out.trans (hb.mono HB15.out.size))
          replace KG := Lib.hid (KG.out.bel hb)
          replace KS := Lib.hid (KS.out.bel hb)
          replace KY := Lib.hid (KY.out.bel hb)
          replace VT := Lib.hid (VT.out.bel hb)
          replace KA := Lib.hid (KA.out.bel hb)
          replace VM := Lib.hid (VM.out.bel hb)
          replace KU := Lib.hid (KU.out.bel hb)
          clear hb HB15
          go_upto_region 12 with fail
          obtain ⟨w17, hW⟩ : ∃ W, w16.alloc (.cells #[.int .u32 0, .int .i64 0, .int .i64 0, .int .i64 0] 27) = W := ⟨_, rfl⟩
          obtain ⟨Q, hG⟩ : ∃ G, w16.heap.size = G := ⟨_, rfl⟩
          rw [hW, hG]
          have hb : Below w16.heap.size w16 w17 := by subst hW; exact (Below.refl _ _).alloc (Nat.le_refl _) _
          have HB17 := Lib.hid (HB16.out.trans (hb.mono HB16.out.size))
          have LQ : Hid (w.heap.size ≤ Q) := by subst hG; exact HB16.out.size
          have NGQ : Hid (G < Q) := by subst hG; exact KG.out.size
          have NSQ : Hid (S < Q) := by subst hG; exact KS.out.size
          have NYQ : Hid (Y < Q) := by subst hG; exact KY.out.size
          have NAQ : Hid (A < Q) := by subst hG; exact KA.out.size
          have NUQ : Hid (U < Q) := by subst hG; exact KU.out.size
          replace KG := Lib.hid (KG.out.bel hb)
          replace KS := Lib.hid (KS.out.bel hb)
          replace KY := Lib.hid (KY.out.bel hb)
          replace VT := Lib.hid (VT.out.bel hb)
          replace KA := Lib.hid (KA.out.bel hb)
          replace VM := Lib.hid (VM.out.bel hb)
          replace KU := Lib.hid (KU.out.bel hb)
          have KQ : Hid (Blk Q #[.int .u32 0, .int .i64 0, .int .i64 0, .int .i64 0] 27 w17) := by subst hW hG; exact Blk.new _ _ _
          clear hb hW hG HB16
          go_wp2_with fail
          refine (X1.out _ w17 VM.out).mono ?_
          rintro e1 w18 ⟨rfl, hb⟩
          have HB18 := Lib.hid (HB17.out.trans (hb.mono HB17.out.size))
          replace KG := Lib.hid (KG.out.bel hb)
          replace KS := Lib.hid (KS.out.bel hb)
          replace KY := Lib.hid (KY.out.bel hb)
          replace VT := Lib.hid (VT.out.bel hb)
          replace KA := Lib.hid (KA.out.bel hb)
          replace VM := Lib.hid (VM.out.bel hb)
          replace KU := Lib.hid (KU.out.bel hb)
          replace KQ := Lib.hid (KQ.out.bel hb)
          clear hb HB17
          have qG0 := KG.out.cell 0 rfl
          have qG1 := KG.out.cell 1 rfl
          have qG2 := KG.out.cell 2 rfl
          have qG3 := KG.out.cell 3 rfl
          have qS0 := KS.out.cell 0 rfl
          have qS1 := KS.out.cell 1 rfl
          have qS2 := KS.out.cell 2 rfl
          have qS3 := KS.out.cell 3 rfl
          have qY0 := KY.out.cell 0 rfl
          have qY1 := KY.out.cell 1 rfl
          have qY2 := KY.out.cell 2 rfl
          have qY3 := KY.out.cell 3 rfl
          have qA0 := KA.out.cell 0 rfl
          have qA1 := KA.out.cell 1 rfl
          have qA2 := KA.out.cell 2 rfl
          have qA3 := KA.out.cell 3 rfl
          have qU0 := KU.out.cell 0 rfl
          have qU1 := KU.out.cell 1 rfl
          have qU2 := KU.out.cell 2 rfl
          have qU3 := KU.out.cell 3 rfl
          have qQ0 := KQ.out.cell 0 rfl
          have qQ1 := KQ.out.cell 1 rfl
          have qQ2 := KQ.out.cell 2 rfl
          have qQ3 := KQ.out.cell 3 rfl
          go_wp2_with fail
          refine (CH.out w18).mono ?_
          rintro e1 w19 ⟨rfl, hb⟩
          clear qG0 qG1 qG2 qG3 qS0 qS1 qS2 qS3 qY0 qY1 qY2 qY3 qA0 qA1 qA2 qA3 qU0 qU1 qU2 qU3 qQ0 qQ1 qQ2 qQ3
          have HB19 := Lib.hid (HB18.out.trans (hb.mono HB18.out.size))
          replace KG := Lib.hid (KG.out.bel hb)
          replace KS := Lib.hid (KS.out.bel hb)
          replace KY := Lib.hid (KY.out.bel hb)
          replace VT := Lib.hid (VT.out.bel hb)
          replace KA := Lib.hid (KA.out.bel hb)
          replace VM := Lib.hid (VM.out.bel hb)
          replace KU := Lib.hid (KU.out.bel hb)
          replace KQ := Lib.hid (KQ.out.bel hb)
          clear hb HB18
          have qG0 := KG.out.cell 0 rfl
          have qG1 := KG.out.cell 1 rfl
          have qG2 := KG.out.cell 2 rfl
          have qG3 := KG.out.cell 3 rfl
          have qS0 := KS.out.cell 0 rfl
          have qS1 := KS.out.cell 1 rfl
          have qS2 := KS.out.cell 2 rfl
          have qS3 := KS.out.cell 3 rfl
          have qY0 := KY.out.cell 0 rfl
          have qY1 := KY.out.cell 1 rfl
          have qY2 := KY.out.cell 2 rfl
          have qY3 := KY.out.cell 3 rfl
          have qA0 := KA.out.cell 0 rfl
          have qA1 := KA.out.cell 1 rfl
          have qA2 := KA.out.cell 2 rfl
          have qA3 := KA.out.cell 3 rfl
          have qU0 := KU.out.cell 0 rfl
          have qU1 := KU.out.cell 1 rfl
          have qU2 := KU.out.cell 2 rfl
          have qU3 := KU.out.cell 3 rfl
          have qQ0 := KQ.out.cell 0 rfl
          have qQ1 := KQ.out.cell 1 rfl
          have qQ2 := KQ.out.cell 2 rfl
          have qQ3 := KQ.out.cell 3 rfl
          go_wp2_with fail
          refine (FM.out _ w19 VM.out).mono ?_
          rintro e1 w20 ⟨rfl, hb⟩
          clear qG0 qG1 qG2 qG3 qS0 qS1 qS2 qS3 qY0 qY1 qY2 qY3 qA0 qA1 qA2 qA3 qU0 qU1 qU2 qU3 qQ0 qQ1 qQ2 qQ3
          have HB20 := Lib.hid (HB19.out.trans (hb.mono HB19.out.size))
          replace KG := Lib.hid (KG.out.bel hb)
          replace KS := Lib.hid (KS.out.bel hb)
          replace KY := Lib.hid (KY.out.bel hb)
          replace VT := Lib.hid (VT.out.bel hb)
          replace KA := Lib.hid (KA.out.bel hb)
          replace VM := Lib.hid (VM.out.bel hb)
          replace KU := Lib.hid (KU.out.bel hb)
          replace KQ := Lib.hid (KQ.out.bel hb)
          clear hb HB19
          have qG0 := KG.out.cell 0 rfl
          have qG1 := KG.out.cell 1 rfl
          have qG2 := KG.out.cell 2 rfl
          have qG3 := KG.out.cell 3 rfl
          have qS0 := KS.out.cell 0 rfl
          have qS1 := KS.out.cell 1 rfl
          have qS2 := KS.out.cell 2 rfl
          have qS3 := KS.out.cell 3 rfl
          have qY0 := KY.out.cell 0 rfl
          have qY1 := KY.out.cell 1 rfl
          have qY2 := KY.out.cell 2 rfl
          have qY3 := KY.out.cell 3 rfl
          have qA0 := KA.out.cell 0 rfl
          have qA1 := KA.out.cell 1 rfl
          have qA2 := KA.out.cell 2 rfl
          have qA3 := KA.out.cell 3 rfl
          have qU0 := KU.out.cell 0 rfl
          have qU1 := KU.out.cell 1 rfl
          have qU2 := KU.out.cell 2 rfl
          have qU3 := KU.out.cell 3 rfl
          have qQ0 := KQ.out.cell 0 rfl
          have qQ1 := KQ.out.cell 1 rfl
          have qQ2 := KQ.out.cell 2 rfl
          have qQ3 := KQ.out.cell 3 rfl
          go_wp2_with fail
          go_ret
          exact ⟨rfl, HB20.out⟩
        | some u =>
          by_cases hu : u.len = 0
          · have he := HPL.out (fun s hs => by rw [ho] at hs; injection hs with hs; rw [← hs]; exact hu)
            have t1 : (u.len == 0) = true := by rw [hu]; rfl
            have F1x : Hid (∀ v w, IsR w v M → Calls Try.prog 12 #[v, .int .u32 (a : Int)] w fun e w' => e = .returned (.tuple #[.agg #[.int .u32 0, .int .i64 0, .int .i64 1, .int .i64 8], .bool true]) ∧ Below w.heap.size w w') := fun v w hv => by
              have h := F1.out v w hv
              rw [he] at h
              exact h
            clear F1
            have F1 := F1x
            clear F1x
            have X1x : Hid (∀ v w, IsR w v M → Calls Try.prog 14 #[v, .int .u32 (a : Int)] w fun e w' => e = .returned (.tuple #[.int .i64 8, .bool true]) ∧ Below w.heap.size w w') := fun v w hv => by
              have h := X1.out v w hv
              rw [he] at h
              exact h
            clear X1
            have X1 := X1x
            clear X1x
            have F2x : Hid (∀ v w, IsR w v T → Calls Try.prog 12 #[v, .int .u32 (a : Int)] w fun e w' => e = .returned (.tuple #[.agg #[.int .u32 (u.at_ : Int), .int .i64 u.len, .int .i64 u.act, .int .i64 u.nxt], .bool true]) ∧ Below w.heap.size w w') := fun v w hv => by
              have h := F2.out v w hv
              rw [ho] at h
              exact h
            clear F2
            have F2 := F2x
            clear F2x
            clear he ho hu HPL HFO
            go_wp2_with fail
            refine (F1.out _ wz VM.out).mono ?_
            rintro e1 w14 ⟨rfl, hb⟩
            have HB14 := Lib.hid (HB13.out.trans (hb.mono HB13.out.size))
            replace KG := Lib.hid (KG.out.bel hb)
            replace KS := Lib.hid (KS.out.bel hb)
            replace KY := Lib.hid (KY.out.bel hb)
            replace VT := Lib.hid (VT.out.bel hb)
            replace KA := Lib.hid (KA.out.bel hb)
            replace VM := Lib.hid (VM.out.bel hb)
            clear hb HB13
            go_upto_region 11 with fail
            obtain ⟨w15, hW⟩ : ∃ W, w14.alloc (.cells #[.int .u32 0, .int .i64 0, .int .i64 1, .int .i64 8] 27) = W := ⟨_, rfl⟩
            obtain ⟨U, hG⟩ : ∃ G, w14.heap.size = G := ⟨_, rfl⟩
            rw [hW, hG]
            have hb : Below w14.heap.size w14 w15 := by subst hW; exact (Below.refl _ _).alloc (Nat.le_refl _) _
            have HB15 := Lib.hid (HB14.out.trans (hb.mono HB14.out.size))
            have LU : Hid (w.heap.size ≤ U) := by subst hG; exact HB14.out.size
            have NGU : Hid (G < U) := by subst hG; exact KG.out.size
            have NSU : Hid (S < U) := by subst hG; exact KS.out.size
            have NYU : Hid (Y < U) := by subst hG; exact KY.out.size
            have NAU : Hid (A < U) := by subst hG; exact KA.out.size
            replace KG := Lib.hid (KG.out.bel hb)
            replace KS := Lib.hid (KS.out.bel hb)
            replace KY := Lib.hid (KY.out.bel hb)
            replace VT := Lib.hid (VT.out.bel hb)
            replace KA := Lib.hid (KA.out.bel hb)
            replace VM := Lib.hid (VM.out.bel hb)
            have KU : Hid (Blk U #[.int .u32 0, .int .i64 0, .int .i64 1, .int .i64 8] 27 w15) := by subst hW hG; exact Blk.new _ _ _
            clear hb hW hG HB14
            go_wp2_with fail
            refine (F2.out _ w15 VT.out.isr).mono ?_
            rintro e1 w16 ⟨rfl, hb⟩
            have HB16 := Lib.hid (HB15.out.trans (hb.mono HB15.out.size))
            replace KG := Lib.hid (KG.out.bel hb)
            replace KS := Lib.hid (KS.out.bel hb)
            replace KY := Lib.hid (KY.out.bel hb)
            replace VT := Lib.hid (VT.out.bel hb)
            replace KA := Lib.hid (KA.out.bel hb)
            replace VM := Lib.hid (VM.out.bel hb)
            replace KU := Lib.hid (KU.out.bel hb)
            clear hb HB15
            go_upto_region 12 with fail
            obtain ⟨w17, hW⟩ : ∃ W, w16.alloc (.cells #[.int .u32 (u.at_ : Int), .int .i64 u.len, .int .i64 u.act, .int .i64 u.nxt] 27) = W := ⟨_, rfl⟩
            obtain ⟨Q, hG⟩ : ∃ G, w16.heap.size = G := ⟨_, rfl⟩
            rw [hW, hG]
            have hb : Below w16.heap.size w16 w17 := by subst hW; exact (Below.refl _ _).alloc (Nat.le_refl _) _
            have HB17 := Lib.hid (HB16.out.trans (hb.mono HB16.out.size))
            have LQ : Hid (w.heap.size ≤ Q) := by subst hG; exact HB16.out.size
            have NGQ : Hid (G < Q) := by subst hG; exact KG.out.size
            have NSQ : Hid (S < Q) := by subst hG; exact KS.out.size
            have NYQ : Hid (Y < Q) := by subst hG; exact KY.out.size
            have NAQ : Hid (A < Q) := by subst hG; exact KA.out.size
            have NUQ : Hid (U < Q) := by subst hG; exact KU.out.size
            replace KG := Lib.hid (KG.out.bel hb)
            replace KS := Lib.hid (KS.out.bel hb)
            replace KY := Lib.hid (KY.out.bel hb)
            replace VT := Lib.hid (VT.out.bel hb)
            replace KA := Lib.hid (KA.out.bel hb)
            replace VM := Lib.hid (VM.out.bel hb)
            replace KU := Lib.hid (KU.out.bel hb)
            have KQ : Hid (Blk Q #[.int .u32 (u.at_ : Int), .int .i64 u.len, .int .i64 u.act, .int .i64 u.nxt] 27 w17) := by subst hW hG; exact Blk.new _ _ _
            clear hb hW hG HB16
            go_wp2_with fail
            refine (X1.out _ w17 VM.out).mono ?_
            rintro e1 w18 ⟨rfl, hb⟩
            have HB18 := Lib.hid (HB17.out.trans (hb.mono HB17.out.size))
            replace KG := Lib.hid (KG.out.bel hb)
            replace KS := Lib.hid (KS.out.bel hb)
            replace KY := Lib.hid (KY.out.bel hb)
            replace VT := Lib.hid (VT.out.bel hb)
            replace KA := Lib.hid (KA.out.bel hb)
            replace VM := Lib.hid (VM.out.bel hb)
            replace KU := Lib.hid (KU.out.bel hb)
            replace KQ := Lib.hid (KQ.out.bel hb)
            clear hb HB17
            have qG0 := KG.out.cell 0 rfl
            have qG1 := KG.out.cell 1 rfl
            have qG2 := KG.out.cell 2 rfl
            have qG3 := KG.out.cell 3 rfl
            have qS0 := KS.out.cell 0 rfl
            have qS1 := KS.out.cell 1 rfl
            have qS2 := KS.out.cell 2 rfl
            have qS3 := KS.out.cell 3 rfl
            have qY0 := KY.out.cell 0 rfl
            have qY1 := KY.out.cell 1 rfl
            have qY2 := KY.out.cell 2 rfl
            have qY3 := KY.out.cell 3 rfl
            have qA0 := KA.out.cell 0 rfl
            have qA1 := KA.out.cell 1 rfl
            have qA2 := KA.out.cell 2 rfl
            have qA3 := KA.out.cell 3 rfl
            have qU0 := KU.out.cell 0 rfl
            have qU1 := KU.out.cell 1 rfl
            have qU2 := KU.out.cell 2 rfl
            have qU3 := KU.out.cell 3 rfl
            have qQ0 := KQ.out.cell 0 rfl
            have qQ1 := KQ.out.cell 1 rfl
            have qQ2 := KQ.out.cell 2 rfl
            have qQ3 := KQ.out.cell 3 rfl
            go_wp2_with fail
            refine (CH.out w18).mono ?_
            rintro e1 w19 ⟨rfl, hb⟩
            clear qG0 qG1 qG2 qG3 qS0 qS1 qS2 qS3 qY0 qY1 qY2 qY3 qA0 qA1 qA2 qA3 qU0 qU1 qU2 qU3 qQ0 qQ1 qQ2 qQ3
            have HB19 := Lib.hid (HB18.out.trans (hb.mono HB18.out.size))
            replace KG := Lib.hid (KG.out.bel hb)
            replace KS := Lib.hid (KS.out.bel hb)
            replace KY := Lib.hid (KY.out.bel hb)
            replace VT := Lib.hid (VT.out.bel hb)
            replace KA := Lib.hid (KA.out.bel hb)
            replace VM := Lib.hid (VM.out.bel hb)
            replace KU := Lib.hid (KU.out.bel hb)
            replace KQ := Lib.hid (KQ.out.bel hb)
            clear hb HB18
            have qG0 := KG.out.cell 0 rfl
            have qG1 := KG.out.cell 1 rfl
            have qG2 := KG.out.cell 2 rfl
            have qG3 := KG.out.cell 3 rfl
            have qS0 := KS.out.cell 0 rfl
            have qS1 := KS.out.cell 1 rfl
            have qS2 := KS.out.cell 2 rfl
            have qS3 := KS.out.cell 3 rfl
            have qY0 := KY.out.cell 0 rfl
            have qY1 := KY.out.cell 1 rfl
            have qY2 := KY.out.cell 2 rfl
            have qY3 := KY.out.cell 3 rfl
            have qA0 := KA.out.cell 0 rfl
            have qA1 := KA.out.cell 1 rfl
            have qA2 := KA.out.cell 2 rfl
            have qA3 := KA.out.cell 3 rfl
            have qU0 := KU.out.cell 0 rfl
            have qU1 := KU.out.cell 1 rfl
            have qU2 := KU.out.cell 2 rfl
            have qU3 := KU.out.cell 3 rfl
            have qQ0 := KQ.out.cell 0 rfl
            have qQ1 := KQ.out.cell 1 rfl
            have qQ2 := KQ.out.cell 2 rfl
            have qQ3 := KQ.out.cell 3 rfl
            go_wp2_with fail
            refine (FM.out _ w19 VM.out).mono ?_
            rintro e1 w20 ⟨rfl, hb⟩
            clear qG0 qG1 qG2 qG3 qS0 qS1 qS2 qS3 qY0 qY1 qY2 qY3 qA0 qA1 qA2 qA3 qU0 qU1 qU2 qU3 qQ0 qQ1 qQ2 qQ3
            have HB20 := Lib.hid (HB19.out.trans (hb.mono HB19.out.size))
            replace KG := Lib.hid (KG.out.bel hb)
            replace KS := Lib.hid (KS.out.bel hb)
            replace KY := Lib.hid (KY.out.bel hb)
            replace VT := Lib.hid (VT.out.bel hb)
            replace KA := Lib.hid (KA.out.bel hb)
            replace VM := Lib.hid (VM.out.bel hb)
            replace KU := Lib.hid (KU.out.bel hb)
            replace KQ := Lib.hid (KQ.out.bel hb)
            clear hb HB19
            have qG0 := KG.out.cell 0 rfl
            have qG1 := KG.out.cell 1 rfl
            have qG2 := KG.out.cell 2 rfl
            have qG3 := KG.out.cell 3 rfl
            have qS0 := KS.out.cell 0 rfl
            have qS1 := KS.out.cell 1 rfl
            have qS2 := KS.out.cell 2 rfl
            have qS3 := KS.out.cell 3 rfl
            have qY0 := KY.out.cell 0 rfl
            have qY1 := KY.out.cell 1 rfl
            have qY2 := KY.out.cell 2 rfl
            have qY3 := KY.out.cell 3 rfl
            have qA0 := KA.out.cell 0 rfl
            have qA1 := KA.out.cell 1 rfl
            have qA2 := KA.out.cell 2 rfl
            have qA3 := KA.out.cell 3 rfl
            have qU0 := KU.out.cell 0 rfl
            have qU1 := KU.out.cell 1 rfl
            have qU2 := KU.out.cell 2 rfl
            have qU3 := KU.out.cell 3 rfl
            have qQ0 := KQ.out.cell 0 rfl
            have qQ1 := KQ.out.cell 1 rfl
            have qQ2 := KQ.out.cell 2 rfl
            have qQ3 := KQ.out.cell 3 rfl
            go_wp2_with fail
            go_ret
            exact ⟨rfl, HB20.out⟩
          · have he := HFO.out u ho hu
            have t1 : (u.len == 0) = false := by rw [beq_eq_false_iff_ne]; exact hu
            obtain ⟨nx, hnx⟩ : ∃ x : Int, (nextT (some u)).1 = x := ⟨_, rfl⟩
            obtain ⟨tq, hto⟩ : ∃ x : Bool, (nextT (some u)).2 = x := ⟨_, rfl⟩
            have t6 : ((u.at_ : Int) == (u.at_ : Int)) = true := by simp
            have t7 : (u.len == u.len) = true := by simp
            have t8 : (u.act == u.act) = true := by simp
            have t9 : (u.nxt == u.nxt) = true := by simp
            have F1x : Hid (∀ v w, IsR w v M → Calls Try.prog 12 #[v, .int .u32 (a : Int)] w fun e w' => e = .returned (.tuple #[.agg #[.int .u32 (u.at_ : Int), .int .i64 u.len, .int .i64 u.act, .int .i64 u.nxt], .bool true]) ∧ Below w.heap.size w w') := fun v w hv => by
              have h := F1.out v w hv
              rw [he] at h
              exact h
            clear F1
            have F1 := F1x
            clear F1x
            have X1x : Hid (∀ v w, IsR w v M → Calls Try.prog 14 #[v, .int .u32 (a : Int)] w fun e w' => e = .returned (.tuple #[.int .i64 nx, .bool tq]) ∧ Below w.heap.size w w') := fun v w hv => by
              have h := X1.out v w hv
              rw [he, hnx, hto] at h
              exact h
            clear X1
            have X1 := X1x
            clear X1x
            have F2x : Hid (∀ v w, IsR w v T → Calls Try.prog 12 #[v, .int .u32 (a : Int)] w fun e w' => e = .returned (.tuple #[.agg #[.int .u32 (u.at_ : Int), .int .i64 u.len, .int .i64 u.act, .int .i64 u.nxt], .bool true]) ∧ Below w.heap.size w w') := fun v w hv => by
              have h := F2.out v w hv
              rw [ho] at h
              exact h
            clear F2
            have F2 := F2x
            clear F2x
            clear he ho hu hnx hto HPL HFO
            go_wp2_with fail
            refine (F1.out _ wz VM.out).mono ?_
            rintro e1 w14 ⟨rfl, hb⟩
            have HB14 := Lib.hid (HB13.out.trans (hb.mono HB13.out.size))
            replace KG := Lib.hid (KG.out.bel hb)
            replace KS := Lib.hid (KS.out.bel hb)
            replace KY := Lib.hid (KY.out.bel hb)
            replace VT := Lib.hid (VT.out.bel hb)
            replace KA := Lib.hid (KA.out.bel hb)
            replace VM := Lib.hid (VM.out.bel hb)
            clear hb HB13
            go_upto_region 11 with fail
            obtain ⟨w15, hW⟩ : ∃ W, w14.alloc (.cells #[.int .u32 (u.at_ : Int), .int .i64 u.len, .int .i64 u.act, .int .i64 u.nxt] 27) = W := ⟨_, rfl⟩
            obtain ⟨U, hG⟩ : ∃ G, w14.heap.size = G := ⟨_, rfl⟩
            rw [hW, hG]
            have hb : Below w14.heap.size w14 w15 := by subst hW; exact (Below.refl _ _).alloc (Nat.le_refl _) _
            have HB15 := Lib.hid (HB14.out.trans (hb.mono HB14.out.size))
            have LU : Hid (w.heap.size ≤ U) := by subst hG; exact HB14.out.size
            have NGU : Hid (G < U) := by subst hG; exact KG.out.size
            have NSU : Hid (S < U) := by subst hG; exact KS.out.size
            have NYU : Hid (Y < U) := by subst hG; exact KY.out.size
            have NAU : Hid (A < U) := by subst hG; exact KA.out.size
            replace KG := Lib.hid (KG.out.bel hb)
            replace KS := Lib.hid (KS.out.bel hb)
            replace KY := Lib.hid (KY.out.bel hb)
            replace VT := Lib.hid (VT.out.bel hb)
            replace KA := Lib.hid (KA.out.bel hb)
            replace VM := Lib.hid (VM.out.bel hb)
            have KU : Hid (Blk U #[.int .u32 (u.at_ : Int), .int .i64 u.len, .int .i64 u.act, .int .i64 u.nxt] 27 w15) := by subst hW hG; exact Blk.new _ _ _
            clear hb hW hG HB14
            go_wp2_with fail
            refine (F2.out _ w15 VT.out.isr).mono ?_
            rintro e1 w16 ⟨rfl, hb⟩
            have HB16 := Lib.hid (HB15.out.trans (hb.mono HB15.out.size))
            replace KG := Lib.hid (KG.out.bel hb)
            replace KS := Lib.hid (KS.out.bel hb)
            replace KY := Lib.hid (KY.out.bel hb)
            replace VT := Lib.hid (VT.out.bel hb)
            replace KA := Lib.hid (KA.out.bel hb)
            replace VM := Lib.hid (VM.out.bel hb)
            replace KU := Lib.hid (KU.out.bel hb)
            clear hb HB15
            go_upto_region 12 with fail
            obtain ⟨w17, hW⟩ : ∃ W, w16.alloc (.cells #[.int .u32 (u.at_ : Int), .int .i64 u.len, .int .i64 u.act, .int .i64 u.nxt] 27) = W := ⟨_, rfl⟩
            obtain ⟨Q, hG⟩ : ∃ G, w16.heap.size = G := ⟨_, rfl⟩
            rw [hW, hG]
            have hb : Below w16.heap.size w16 w17 := by subst hW; exact (Below.refl _ _).alloc (Nat.le_refl _) _
            have HB17 := Lib.hid (HB16.out.trans (hb.mono HB16.out.size))
            have LQ : Hid (w.heap.size ≤ Q) := by subst hG; exact HB16.out.size
            have NGQ : Hid (G < Q) := by subst hG; exact KG.out.size
            have NSQ : Hid (S < Q) := by subst hG; exact KS.out.size
            have NYQ : Hid (Y < Q) := by subst hG; exact KY.out.size
            have NAQ : Hid (A < Q) := by subst hG; exact KA.out.size
            have NUQ : Hid (U < Q) := by subst hG; exact KU.out.size
            replace KG := Lib.hid (KG.out.bel hb)
            replace KS := Lib.hid (KS.out.bel hb)
            replace KY := Lib.hid (KY.out.bel hb)
            replace VT := Lib.hid (VT.out.bel hb)
            replace KA := Lib.hid (KA.out.bel hb)
            replace VM := Lib.hid (VM.out.bel hb)
            replace KU := Lib.hid (KU.out.bel hb)
            have KQ : Hid (Blk Q #[.int .u32 (u.at_ : Int), .int .i64 u.len, .int .i64 u.act, .int .i64 u.nxt] 27 w17) := by subst hW hG; exact Blk.new _ _ _
            clear hb hW hG HB16
            go_wp2_with fail
            refine (X1.out _ w17 VM.out).mono ?_
            rintro e1 w18 ⟨rfl, hb⟩
            have HB18 := Lib.hid (HB17.out.trans (hb.mono HB17.out.size))
            replace KG := Lib.hid (KG.out.bel hb)
            replace KS := Lib.hid (KS.out.bel hb)
            replace KY := Lib.hid (KY.out.bel hb)
            replace VT := Lib.hid (VT.out.bel hb)
            replace KA := Lib.hid (KA.out.bel hb)
            replace VM := Lib.hid (VM.out.bel hb)
            replace KU := Lib.hid (KU.out.bel hb)
            replace KQ := Lib.hid (KQ.out.bel hb)
            clear hb HB17
            have qG0 := KG.out.cell 0 rfl
            have qG1 := KG.out.cell 1 rfl
            have qG2 := KG.out.cell 2 rfl
            have qG3 := KG.out.cell 3 rfl
            have qS0 := KS.out.cell 0 rfl
            have qS1 := KS.out.cell 1 rfl
            have qS2 := KS.out.cell 2 rfl
            have qS3 := KS.out.cell 3 rfl
            have qY0 := KY.out.cell 0 rfl
            have qY1 := KY.out.cell 1 rfl
            have qY2 := KY.out.cell 2 rfl
            have qY3 := KY.out.cell 3 rfl
            have qA0 := KA.out.cell 0 rfl
            have qA1 := KA.out.cell 1 rfl
            have qA2 := KA.out.cell 2 rfl
            have qA3 := KA.out.cell 3 rfl
            have qU0 := KU.out.cell 0 rfl
            have qU1 := KU.out.cell 1 rfl
            have qU2 := KU.out.cell 2 rfl
            have qU3 := KU.out.cell 3 rfl
            have qQ0 := KQ.out.cell 0 rfl
            have qQ1 := KQ.out.cell 1 rfl
            have qQ2 := KQ.out.cell 2 rfl
            have qQ3 := KQ.out.cell 3 rfl
            go_wp2_with fail
            refine (CH.out w18).mono ?_
            rintro e1 w19 ⟨rfl, hb⟩
            clear qG0 qG1 qG2 qG3 qS0 qS1 qS2 qS3 qY0 qY1 qY2 qY3 qA0 qA1 qA2 qA3 qU0 qU1 qU2 qU3 qQ0 qQ1 qQ2 qQ3
            have HB19 := Lib.hid (HB18.out.trans (hb.mono HB18.out.size))
            replace KG := Lib.hid (KG.out.bel hb)
            replace KS := Lib.hid (KS.out.bel hb)
            replace KY := Lib.hid (KY.out.bel hb)
            replace VT := Lib.hid (VT.out.bel hb)
            replace KA := Lib.hid (KA.out.bel hb)
            replace VM := Lib.hid (VM.out.bel hb)
            replace KU := Lib.hid (KU.out.bel hb)
            replace KQ := Lib.hid (KQ.out.bel hb)
            clear hb HB18
            have qG0 := KG.out.cell 0 rfl
            have qG1 := KG.out.cell 1 rfl
            have qG2 := KG.out.cell 2 rfl
            have qG3 := KG.out.cell 3 rfl
            have qS0 := KS.out.cell 0 rfl
            have qS1 := KS.out.cell 1 rfl
            have qS2 := KS.out.cell 2 rfl
            have qS3 := KS.out.cell 3 rfl
            have qY0 := KY.out.cell 0 rfl
            have qY1 := KY.out.cell 1 rfl
            have qY2 := KY.out.cell 2 rfl
            have qY3 := KY.out.cell 3 rfl
            have qA0 := KA.out.cell 0 rfl
            have qA1 := KA.out.cell 1 rfl
            have qA2 := KA.out.cell 2 rfl
            have qA3 := KA.out.cell 3 rfl
            have qU0 := KU.out.cell 0 rfl
            have qU1 := KU.out.cell 1 rfl
            have qU2 := KU.out.cell 2 rfl
            have qU3 := KU.out.cell 3 rfl
            have qQ0 := KQ.out.cell 0 rfl
            have qQ1 := KQ.out.cell 1 rfl
            have qQ2 := KQ.out.cell 2 rfl
            have qQ3 := KQ.out.cell 3 rfl
            go_wp2_with fail
            refine (FM.out _ w19 VM.out).mono ?_
            rintro e1 w20 ⟨rfl, hb⟩
            clear qG0 qG1 qG2 qG3 qS0 qS1 qS2 qS3 qY0 qY1 qY2 qY3 qA0 qA1 qA2 qA3 qU0 qU1 qU2 qU3 qQ0 qQ1 qQ2 qQ3
            have HB20 := Lib.hid (HB19.out.trans (hb.mono HB19.out.size))
            replace KG := Lib.hid (KG.out.bel hb)
            replace KS := Lib.hid (KS.out.bel hb)
            replace KY := Lib.hid (KY.out.bel hb)
            replace VT := Lib.hid (VT.out.bel hb)
            replace KA := Lib.hid (KA.out.bel hb)
            replace VM := Lib.hid (VM.out.bel hb)
            replace KU := Lib.hid (KU.out.bel hb)
            replace KQ := Lib.hid (KQ.out.bel hb)
            clear hb HB19
            have qG0 := KG.out.cell 0 rfl
            have qG1 := KG.out.cell 1 rfl
            have qG2 := KG.out.cell 2 rfl
            have qG3 := KG.out.cell 3 rfl
            have qS0 := KS.out.cell 0 rfl
            have qS1 := KS.out.cell 1 rfl
            have qS2 := KS.out.cell 2 rfl
            have qS3 := KS.out.cell 3 rfl
            have qY0 := KY.out.cell 0 rfl
            have qY1 := KY.out.cell 1 rfl
            have qY2 := KY.out.cell 2 rfl
            have qY3 := KY.out.cell 3 rfl
            have qA0 := KA.out.cell 0 rfl
            have qA1 := KA.out.cell 1 rfl
            have qA2 := KA.out.cell 2 rfl
            have qA3 := KA.out.cell 3 rfl
            have qU0 := KU.out.cell 0 rfl
            have qU1 := KU.out.cell 1 rfl
            have qU2 := KU.out.cell 2 rfl
            have qU3 := KU.out.cell 3 rfl
            have qQ0 := KQ.out.cell 0 rfl
            have qQ1 := KQ.out.cell 1 rfl
            have qQ2 := KQ.out.cell 2 rfl
            have qQ3 := KQ.out.cell 3 rfl
            go_wp2_with fail
            go_ret
            exact ⟨rfl, HB20.out⟩
      | true =>
        have e := find_one_yes hh
        rw [HF.out] at e
        subst e
        have e2 : s = r := HS.out.symm
        subst e2
        have e3 : ok = true := HOK.out.symm
        subst e3
        rw [hh] at CH
        clear hh HS HOK HF
        have o1 : (true == true) = true := rfl
        have x6 : ((s.at_ : Int) == (s.at_ : Int)) = true := by simp
        have x7 : (s.len == s.len) = true := by simp
        have x8 : (s.act == s.act) = true := by simp
        have x9 : (s.nxt == s.nxt) = true := by simp
        cases ho : findF T a with
        | none =>
          have he := HPL.out (fun s hs => by rw [ho] at hs; cases hs)
          have F1x : Hid (∀ v w, IsR w v M → Calls Try.prog 12 #[v, .int .u32 (a : Int)] w fun e w' => e = .returned (.tuple #[.agg #[.int .u32 0, .int .i64 0, .int .i64 1, .int .i64 8], .bool true]) ∧ Below w.heap.size w w') := fun v w hv => by
            have h := F1.out v w hv
            rw [he] at h
            exact h
          clear F1
          have F1 := F1x
          clear F1x
          have X1x : Hid (∀ v w, IsR w v M → Calls Try.prog 14 #[v, .int .u32 (a : Int)] w fun e w' => e = .returned (.tuple #[.int .i64 8, .bool true]) ∧ Below w.heap.size w w') := fun v w hv => by
            have h := X1.out v w hv
            rw [he] at h
            exact h
          clear X1
          have X1 := X1x
          clear X1x
          have F2x : Hid (∀ v w, IsR w v T → Calls Try.prog 12 #[v, .int .u32 (a : Int)] w fun e w' => e = .returned (.tuple #[.agg #[.int .u32 0, .int .i64 0, .int .i64 0, .int .i64 0], .bool false]) ∧ Below w.heap.size w w') := fun v w hv => by
            have h := F2.out v w hv
            rw [ho] at h
            exact h
          clear F2
          have F2 := F2x
          clear F2x
          clear he ho HPL HFO
          go_wp2_with fail
          refine (F1.out _ wz VM.out).mono ?_
          rintro e1 w14 ⟨rfl, hb⟩
          have HB14 := Lib.hid (HB13.out.trans (hb.mono HB13.out.size))
          replace KG := Lib.hid (KG.out.bel hb)
          replace KS := Lib.hid (KS.out.bel hb)
          replace KY := Lib.hid (KY.out.bel hb)
          replace VT := Lib.hid (VT.out.bel hb)
          replace KA := Lib.hid (KA.out.bel hb)
          replace VM := Lib.hid (VM.out.bel hb)
          clear hb HB13
          go_upto_region 11 with fail
          obtain ⟨w15, hW⟩ : ∃ W, w14.alloc (.cells #[.int .u32 0, .int .i64 0, .int .i64 1, .int .i64 8] 27) = W := ⟨_, rfl⟩
          obtain ⟨U, hG⟩ : ∃ G, w14.heap.size = G := ⟨_, rfl⟩
          rw [hW, hG]
          have hb : Below w14.heap.size w14 w15 := by subst hW; exact (Below.refl _ _).alloc (Nat.le_refl _) _
          have HB15 := Lib.hid (HB14.out.trans (hb.mono HB14.out.size))
          have LU : Hid (w.heap.size ≤ U) := by subst hG; exact HB14.out.size
          have NGU : Hid (G < U) := by subst hG; exact KG.out.size
          have NSU : Hid (S < U) := by subst hG; exact KS.out.size
          have NYU : Hid (Y < U) := by subst hG; exact KY.out.size
          have NAU : Hid (A < U) := by subst hG; exact KA.out.size
          replace KG := Lib.hid (KG.out.bel hb)
          replace KS := Lib.hid (KS.out.bel hb)
          replace KY := Lib.hid (KY.out.bel hb)
          replace VT := Lib.hid (VT.out.bel hb)
          replace KA := Lib.hid (KA.out.bel hb)
          replace VM := Lib.hid (VM.out.bel hb)
          have KU : Hid (Blk U #[.int .u32 0, .int .i64 0, .int .i64 1, .int .i64 8] 27 w15) := by subst hW hG; exact Blk.new _ _ _
          clear hb hW hG HB14
          go_wp2_with fail
          refine (F2.out _ w15 VT.out.isr).mono ?_
          rintro e1 w16 ⟨rfl, hb⟩
          have HB16 := Lib.hid (HB15.out.trans (hb.mono HB15.out.size))
          replace KG := Lib.hid (KG.out.bel hb)
          replace KS := Lib.hid (KS.out.bel hb)
          replace KY := Lib.hid (KY.out.bel hb)
          replace VT := Lib.hid (VT.out.bel hb)
          replace KA := Lib.hid (KA.out.bel hb)
          replace VM := Lib.hid (VM.out.bel hb)
          replace KU := Lib.hid (KU.out.bel hb)
          clear hb HB15
          go_upto_region 12 with fail
          obtain ⟨w17, hW⟩ : ∃ W, w16.alloc (.cells #[.int .u32 0, .int .i64 0, .int .i64 0, .int .i64 0] 27) = W := ⟨_, rfl⟩
          obtain ⟨Q, hG⟩ : ∃ G, w16.heap.size = G := ⟨_, rfl⟩
          rw [hW, hG]
          have hb : Below w16.heap.size w16 w17 := by subst hW; exact (Below.refl _ _).alloc (Nat.le_refl _) _
          have HB17 := Lib.hid (HB16.out.trans (hb.mono HB16.out.size))
          have LQ : Hid (w.heap.size ≤ Q) := by subst hG; exact HB16.out.size
          have NGQ : Hid (G < Q) := by subst hG; exact KG.out.size
          have NSQ : Hid (S < Q) := by subst hG; exact KS.out.size
          have NYQ : Hid (Y < Q) := by subst hG; exact KY.out.size
          have NAQ : Hid (A < Q) := by subst hG; exact KA.out.size
          have NUQ : Hid (U < Q) := by subst hG; exact KU.out.size
          replace KG := Lib.hid (KG.out.bel hb)
          replace KS := Lib.hid (KS.out.bel hb)
          replace KY := Lib.hid (KY.out.bel hb)
          replace VT := Lib.hid (VT.out.bel hb)
          replace KA := Lib.hid (KA.out.bel hb)
          replace VM := Lib.hid (VM.out.bel hb)
          replace KU := Lib.hid (KU.out.bel hb)
          have KQ : Hid (Blk Q #[.int .u32 0, .int .i64 0, .int .i64 0, .int .i64 0] 27 w17) := by subst hW hG; exact Blk.new _ _ _
          clear hb hW hG HB16
          go_wp2_with fail
          refine (X1.out _ w17 VM.out).mono ?_
          rintro e1 w18 ⟨rfl, hb⟩
          have HB18 := Lib.hid (HB17.out.trans (hb.mono HB17.out.size))
          replace KG := Lib.hid (KG.out.bel hb)
          replace KS := Lib.hid (KS.out.bel hb)
          replace KY := Lib.hid (KY.out.bel hb)
          replace VT := Lib.hid (VT.out.bel hb)
          replace KA := Lib.hid (KA.out.bel hb)
          replace VM := Lib.hid (VM.out.bel hb)
          replace KU := Lib.hid (KU.out.bel hb)
          replace KQ := Lib.hid (KQ.out.bel hb)
          clear hb HB17
          have qG0 := KG.out.cell 0 rfl
          have qG1 := KG.out.cell 1 rfl
          have qG2 := KG.out.cell 2 rfl
          have qG3 := KG.out.cell 3 rfl
          have qS0 := KS.out.cell 0 rfl
          have qS1 := KS.out.cell 1 rfl
          have qS2 := KS.out.cell 2 rfl
          have qS3 := KS.out.cell 3 rfl
          have qY0 := KY.out.cell 0 rfl
          have qY1 := KY.out.cell 1 rfl
          have qY2 := KY.out.cell 2 rfl
          have qY3 := KY.out.cell 3 rfl
          have qA0 := KA.out.cell 0 rfl
          have qA1 := KA.out.cell 1 rfl
          have qA2 := KA.out.cell 2 rfl
          have qA3 := KA.out.cell 3 rfl
          have qU0 := KU.out.cell 0 rfl
          have qU1 := KU.out.cell 1 rfl
          have qU2 := KU.out.cell 2 rfl
          have qU3 := KU.out.cell 3 rfl
          have qQ0 := KQ.out.cell 0 rfl
          have qQ1 := KQ.out.cell 1 rfl
          have qQ2 := KQ.out.cell 2 rfl
          have qQ3 := KQ.out.cell 3 rfl
          go_wp2_with fail
          refine (CH.out w18).mono ?_
          rintro e1 w19 ⟨rfl, hb⟩
          clear qG0 qG1 qG2 qG3 qS0 qS1 qS2 qS3 qY0 qY1 qY2 qY3 qA0 qA1 qA2 qA3 qU0 qU1 qU2 qU3 qQ0 qQ1 qQ2 qQ3
          have HB19 := Lib.hid (HB18.out.trans (hb.mono HB18.out.size))
          replace KG := Lib.hid (KG.out.bel hb)
          replace KS := Lib.hid (KS.out.bel hb)
          replace KY := Lib.hid (KY.out.bel hb)
          replace VT := Lib.hid (VT.out.bel hb)
          replace KA := Lib.hid (KA.out.bel hb)
          replace VM := Lib.hid (VM.out.bel hb)
          replace KU := Lib.hid (KU.out.bel hb)
          replace KQ := Lib.hid (KQ.out.bel hb)
          clear hb HB18
          have qG0 := KG.out.cell 0 rfl
          have qG1 := KG.out.cell 1 rfl
          have qG2 := KG.out.cell 2 rfl
          have qG3 := KG.out.cell 3 rfl
          have qS0 := KS.out.cell 0 rfl
          have qS1 := KS.out.cell 1 rfl
          have qS2 := KS.out.cell 2 rfl
          have qS3 := KS.out.cell 3 rfl
          have qY0 := KY.out.cell 0 rfl
          have qY1 := KY.out.cell 1 rfl
          have qY2 := KY.out.cell 2 rfl
          have qY3 := KY.out.cell 3 rfl
          have qA0 := KA.out.cell 0 rfl
          have qA1 := KA.out.cell 1 rfl
          have qA2 := KA.out.cell 2 rfl
          have qA3 := KA.out.cell 3 rfl
          have qU0 := KU.out.cell 0 rfl
          have qU1 := KU.out.cell 1 rfl
          have qU2 := KU.out.cell 2 rfl
          have qU3 := KU.out.cell 3 rfl
          have qQ0 := KQ.out.cell 0 rfl
          have qQ1 := KQ.out.cell 1 rfl
          have qQ2 := KQ.out.cell 2 rfl
          have qQ3 := KQ.out.cell 3 rfl
          go_wp2_with fail
          refine (FM.out _ w19 VM.out).mono ?_
          rintro e1 w20 ⟨rfl, hb⟩
          clear qG0 qG1 qG2 qG3 qS0 qS1 qS2 qS3 qY0 qY1 qY2 qY3 qA0 qA1 qA2 qA3 qU0 qU1 qU2 qU3 qQ0 qQ1 qQ2 qQ3
          have HB20 := Lib.hid (HB19.out.trans (hb.mono HB19.out.size))
          replace KG := Lib.hid (KG.out.bel hb)
          replace KS := Lib.hid (KS.out.bel hb)
          replace KY := Lib.hid (KY.out.bel hb)
          replace VT := Lib.hid (VT.out.bel hb)
          replace KA := Lib.hid (KA.out.bel hb)
          replace VM := Lib.hid (VM.out.bel hb)
          replace KU := Lib.hid (KU.out.bel hb)
          replace KQ := Lib.hid (KQ.out.bel hb)
          clear hb HB19
          have qG0 := KG.out.cell 0 rfl
          have qG1 := KG.out.cell 1 rfl
          have qG2 := KG.out.cell 2 rfl
          have qG3 := KG.out.cell 3 rfl
          have qS0 := KS.out.cell 0 rfl
          have qS1 := KS.out.cell 1 rfl
          have qS2 := KS.out.cell 2 rfl
          have qS3 := KS.out.cell 3 rfl
          have qY0 := KY.out.cell 0 rfl
          have qY1 := KY.out.cell 1 rfl
          have qY2 := KY.out.cell 2 rfl
          have qY3 := KY.out.cell 3 rfl
          have qA0 := KA.out.cell 0 rfl
          have qA1 := KA.out.cell 1 rfl
          have qA2 := KA.out.cell 2 rfl
          have qA3 := KA.out.cell 3 rfl
          have qU0 := KU.out.cell 0 rfl
          have qU1 := KU.out.cell 1 rfl
          have qU2 := KU.out.cell 2 rfl
          have qU3 := KU.out.cell 3 rfl
          have qQ0 := KQ.out.cell 0 rfl
          have qQ1 := KQ.out.cell 1 rfl
          have qQ2 := KQ.out.cell 2 rfl
          have qQ3 := KQ.out.cell 3 rfl
          go_wp2_with fail
          go_ret
          exact ⟨rfl, HB20.out⟩
        | some u =>
          by_cases hu : u.len = 0
          · have he := HPL.out (fun s hs => by rw [ho] at hs; injection hs with hs; rw [← hs]; exact hu)
            have t1 : (u.len == 0) = true := by rw [hu]; rfl
            have F1x : Hid (∀ v w, IsR w v M → Calls Try.prog 12 #[v, .int .u32 (a : Int)] w fun e w' => e = .returned (.tuple #[.agg #[.int .u32 0, .int .i64 0, .int .i64 1, .int .i64 8], .bool true]) ∧ Below w.heap.size w w') := fun v w hv => by
              have h := F1.out v w hv
              rw [he] at h
              exact h
            clear F1
            have F1 := F1x
            clear F1x
            have X1x : Hid (∀ v w, IsR w v M → Calls Try.prog 14 #[v, .int .u32 (a : Int)] w fun e w' => e = .returned (.tuple #[.int .i64 8, .bool true]) ∧ Below w.heap.size w w') := fun v w hv => by
              have h := X1.out v w hv
              rw [he] at h
              exact h
            clear X1
            have X1 := X1x
            clear X1x
            have F2x : Hid (∀ v w, IsR w v T → Calls Try.prog 12 #[v, .int .u32 (a : Int)] w fun e w' => e = .returned (.tuple #[.agg #[.int .u32 (u.at_ : Int), .int .i64 u.len, .int .i64 u.act, .int .i64 u.nxt], .bool true]) ∧ Below w.heap.size w w') := fun v w hv => by
              have h := F2.out v w hv
              rw [ho] at h
              exact h
            clear F2
            have F2 := F2x
            clear F2x
            clear he ho hu HPL HFO
            go_wp2_with fail
            refine (F1.out _ wz VM.out).mono ?_
            rintro e1 w14 ⟨rfl, hb⟩
            have HB14 := Lib.hid (HB13.out.trans (hb.mono HB13.out.size))
            replace KG := Lib.hid (KG.out.bel hb)
            replace KS := Lib.hid (KS.out.bel hb)
            replace KY := Lib.hid (KY.out.bel hb)
            replace VT := Lib.hid (VT.out.bel hb)
            replace KA := Lib.hid (KA.out.bel hb)
            replace VM := Lib.hid (VM.out.bel hb)
            clear hb HB13
            go_upto_region 11 with fail
            obtain ⟨w15, hW⟩ : ∃ W, w14.alloc (.cells #[.int .u32 0, .int .i64 0, .int .i64 1, .int .i64 8] 27) = W := ⟨_, rfl⟩
            obtain ⟨U, hG⟩ : ∃ G, w14.heap.size = G := ⟨_, rfl⟩
            rw [hW, hG]
            have hb : Below w14.heap.size w14 w15 := by subst hW; exact (Below.refl _ _).alloc (Nat.le_refl _) _
            have HB15 := Lib.hid (HB14.out.trans (hb.mono HB14.out.size))
            have LU : Hid (w.heap.size ≤ U) := by subst hG; exact HB14.out.size
            have NGU : Hid (G < U) := by subst hG; exact KG.out.size
            have NSU : Hid (S < U) := by subst hG; exact KS.out.size
            have NYU : Hid (Y < U) := by subst hG; exact KY.out.size
            have NAU : Hid (A < U) := by subst hG; exact KA.out.size
            replace KG := Lib.hid (KG.out.bel hb)
            replace KS := Lib.hid (KS.out.bel hb)
            replace KY := Lib.hid (KY.out.bel hb)
            replace VT := Lib.hid (VT.out.bel hb)
            replace KA := Lib.hid (KA.out.bel hb)
            replace VM := Lib.hid (VM.out.bel hb)
            have KU : Hid (Blk U #[.int .u32 0, .int .i64 0, .int .i64 1, .int .i64 8] 27 w15) := by subst hW hG; exact Blk.new _ _ _
            clear hb hW hG HB14
            go_wp2_with fail
            refine (F2.out _ w15 VT.out.isr).mono ?_
            rintro e1 w16 ⟨rfl, hb⟩
            have HB16 := Lib.hid (HB15.out.trans (hb.mono HB15.out.size))
            replace KG := Lib.hid (KG.out.bel hb)
            replace KS := Lib.hid (KS.out.bel hb)
            replace KY := Lib.hid (KY.out.bel hb)
            replace VT := Lib.hid (VT.out.bel hb)
            replace KA := Lib.hid (KA.out.bel hb)
            replace VM := Lib.hid (VM.out.bel hb)
            replace KU := Lib.hid (KU.out.bel hb)
            clear hb HB15
            go_upto_region 12 with fail
            obtain ⟨w17, hW⟩ : ∃ W, w16.alloc (.cells #[.int .u32 (u.at_ : Int), .int .i64 u.len, .int .i64 u.act, .int .i64 u.nxt] 27) = W := ⟨_, rfl⟩
            obtain ⟨Q, hG⟩ : ∃ G, w16.heap.size = G := ⟨_, rfl⟩
            rw [hW, hG]
            have hb : Below w16.heap.size w16 w17 := by subst hW; exact (Below.refl _ _).alloc (Nat.le_refl _) _
            have HB17 := Lib.hid (HB16.out.trans (hb.mono HB16.out.size))
            have LQ : Hid (w.heap.size ≤ Q) := by subst hG; exact HB16.out.size
            have NGQ : Hid (G < Q) := by subst hG; exact KG.out.size
            have NSQ : Hid (S < Q) := by subst hG; exact KS.out.size
            have NYQ : Hid (Y < Q) := by subst hG; exact KY.out.size
            have NAQ : Hid (A < Q) := by subst hG; exact KA.out.size
            have NUQ : Hid (U < Q) := by subst hG; exact KU.out.size
            replace KG := Lib.hid (KG.out.bel hb)
            replace KS := Lib.hid (KS.out.bel hb)
            replace KY := Lib.hid (KY.out.bel hb)
            replace VT := Lib.hid (VT.out.bel hb)
            replace KA := Lib.hid (KA.out.bel hb)
            replace VM := Lib.hid (VM.out.bel hb)
            replace KU := Lib.hid (KU.out.bel hb)
            have KQ : Hid (Blk Q #[.int .u32 (u.at_ : Int), .int .i64 u.len, .int .i64 u.act, .int .i64 u.nxt] 27 w17) := by subst hW hG; exact Blk.new _ _ _
            clear hb hW hG HB16
            go_wp2_with fail
            refine (X1.out _ w17 VM.out).mono ?_
            rintro e1 w18 ⟨rfl, hb⟩
            have HB18 := Lib.hid (HB17.out.trans (hb.mono HB17.out.size))
            replace KG := Lib.hid (KG.out.bel hb)
            replace KS := Lib.hid (KS.out.bel hb)
            replace KY := Lib.hid (KY.out.bel hb)
            replace VT := Lib.hid (VT.out.bel hb)
            replace KA := Lib.hid (KA.out.bel hb)
            replace VM := Lib.hid (VM.out.bel hb)
            replace KU := Lib.hid (KU.out.bel hb)
            replace KQ := Lib.hid (KQ.out.bel hb)
            clear hb HB17
            have qG0 := KG.out.cell 0 rfl
            have qG1 := KG.out.cell 1 rfl
            have qG2 := KG.out.cell 2 rfl
            have qG3 := KG.out.cell 3 rfl
            have qS0 := KS.out.cell 0 rfl
            have qS1 := KS.out.cell 1 rfl
            have qS2 := KS.out.cell 2 rfl
            have qS3 := KS.out.cell 3 rfl
            have qY0 := KY.out.cell 0 rfl
            have qY1 := KY.out.cell 1 rfl
            have qY2 := KY.out.cell 2 rfl
            have qY3 := KY.out.cell 3 rfl
            have qA0 := KA.out.cell 0 rfl
            have qA1 := KA.out.cell 1 rfl
            have qA2 := KA.out.cell 2 rfl
            have qA3 := KA.out.cell 3 rfl
            have qU0 := KU.out.cell 0 rfl
            have qU1 := KU.out.cell 1 rfl
            have qU2 := KU.out.cell 2 rfl
            have qU3 := KU.out.cell 3 rfl
            have qQ0 := KQ.out.cell 0 rfl
            have qQ1 := KQ.out.cell 1 rfl
            have qQ2 := KQ.out.cell 2 rfl
            have qQ3 := KQ.out.cell 3 rfl
            go_wp2_with fail
            refine (CH.out w18).mono ?_
            rintro e1 w19 ⟨rfl, hb⟩
            clear qG0 qG1 qG2 qG3 qS0 qS1 qS2 qS3 qY0 qY1 qY2 qY3 qA0 qA1 qA2 qA3 qU0 qU1 qU2 qU3 qQ0 qQ1 qQ2 qQ3
            have HB19 := Lib.hid (HB18.out.trans (hb.mono HB18.out.size))
            replace KG := Lib.hid (KG.out.bel hb)
            replace KS := Lib.hid (KS.out.bel hb)
            replace KY := Lib.hid (KY.out.bel hb)
            replace VT := Lib.hid (VT.out.bel hb)
            replace KA := Lib.hid (KA.out.bel hb)
            replace VM := Lib.hid (VM.out.bel hb)
            replace KU := Lib.hid (KU.out.bel hb)
            replace KQ := Lib.hid (KQ.out.bel hb)
            clear hb HB18
            have qG0 := KG.out.cell 0 rfl
            have qG1 := KG.out.cell 1 rfl
            have qG2 := KG.out.cell 2 rfl
            have qG3 := KG.out.cell 3 rfl
            have qS0 := KS.out.cell 0 rfl
            have qS1 := KS.out.cell 1 rfl
            have qS2 := KS.out.cell 2 rfl
            have qS3 := KS.out.cell 3 rfl
            have qY0 := KY.out.cell 0 rfl
            have qY1 := KY.out.cell 1 rfl
            have qY2 := KY.out.cell 2 rfl
            have qY3 := KY.out.cell 3 rfl
            have qA0 := KA.out.cell 0 rfl
            have qA1 := KA.out.cell 1 rfl
            have qA2 := KA.out.cell 2 rfl
            have qA3 := KA.out.cell 3 rfl
            have qU0 := KU.out.cell 0 rfl
            have qU1 := KU.out.cell 1 rfl
            have qU2 := KU.out.cell 2 rfl
            have qU3 := KU.out.cell 3 rfl
            have qQ0 := KQ.out.cell 0 rfl
            have qQ1 := KQ.out.cell 1 rfl
            have qQ2 := KQ.out.cell 2 rfl
            have qQ3 := KQ.out.cell 3 rfl
            go_wp2_with fail
            refine (FM.out _ w19 VM.out).mono ?_
            rintro e1 w20 ⟨rfl, hb⟩
            clear qG0 qG1 qG2 qG3 qS0 qS1 qS2 qS3 qY0 qY1 qY2 qY3 qA0 qA1 qA2 qA3 qU0 qU1 qU2 qU3 qQ0 qQ1 qQ2 qQ3
            have HB20 := Lib.hid (HB19.out.trans (hb.mono HB19.out.size))
            replace KG := Lib.hid (KG.out.bel hb)
            replace KS := Lib.hid (KS.out.bel hb)
            replace KY := Lib.hid (KY.out.bel hb)
            replace VT := Lib.hid (VT.out.bel hb)
            replace KA := Lib.hid (KA.out.bel hb)
            replace VM := Lib.hid (VM.out.bel hb)
            replace KU := Lib.hid (KU.out.bel hb)
            replace KQ := Lib.hid (KQ.out.bel hb)
            clear hb HB19
            have qG0 := KG.out.cell 0 rfl
            have qG1 := KG.out.cell 1 rfl
            have qG2 := KG.out.cell 2 rfl
            have qG3 := KG.out.cell 3 rfl
            have qS0 := KS.out.cell 0 rfl
            have qS1 := KS.out.cell 1 rfl
            have qS2 := KS.out.cell 2 rfl
            have qS3 := KS.out.cell 3 rfl
            have qY0 := KY.out.cell 0 rfl
            have qY1 := KY.out.cell 1 rfl
            have qY2 := KY.out.cell 2 rfl
            have qY3 := KY.out.cell 3 rfl
            have qA0 := KA.out.cell 0 rfl
            have qA1 := KA.out.cell 1 rfl
            have qA2 := KA.out.cell 2 rfl
            have qA3 := KA.out.cell 3 rfl
            have qU0 := KU.out.cell 0 rfl
            have qU1 := KU.out.cell 1 rfl
            have qU2 := KU.out.cell 2 rfl
            have qU3 := KU.out.cell 3 rfl
            have qQ0 := KQ.out.cell 0 rfl
            have qQ1 := KQ.out.cell 1 rfl
            have qQ2 := KQ.out.cell 2 rfl
            have qQ3 := KQ.out.cell 3 rfl
            go_wp2_with fail
            go_ret
            exact ⟨rfl, HB20.out⟩
          · have he := HFO.out u ho hu
            have t1 : (u.len == 0) = false := by rw [beq_eq_false_iff_ne]; exact hu
            obtain ⟨nx, hnx⟩ : ∃ x : Int, (nextT (some u)).1 = x := ⟨_, rfl⟩
            obtain ⟨tq, hto⟩ : ∃ x : Bool, (nextT (some u)).2 = x := ⟨_, rfl⟩
            have t6 : ((u.at_ : Int) == (u.at_ : Int)) = true := by simp
            have t7 : (u.len == u.len) = true := by simp
            have t8 : (u.act == u.act) = true := by simp
            have t9 : (u.nxt == u.nxt) = true := by simp
            have F1x : Hid (∀ v w, IsR w v M → Calls Try.prog 12 #[v, .int .u32 (a : Int)] w fun e w' => e = .returned (.tuple #[.agg #[.int .u32 (u.at_ : Int), .int .i64 u.len, .int .i64 u.act, .int .i64 u.nxt], .bool true]) ∧ Below w.heap.size w w') := fun v w hv => by
              have h := F1.out v w hv
              rw [he] at h
              exact h
            clear F1
            have F1 := F1x
            clear F1x
            have X1x : Hid (∀ v w, IsR w v M → Calls Try.prog 14 #[v, .int .u32 (a : Int)] w fun e w' => e = .returned (.tuple #[.int .i64 nx, .bool tq]) ∧ Below w.heap.size w w') := fun v w hv => by
              have h := X1.out v w hv
              rw [he, hnx, hto] at h
              exact h
            clear X1
            have X1 := X1x
            clear X1x
            have F2x : Hid (∀ v w, IsR w v T → Calls Try.prog 12 #[v, .int .u32 (a : Int)] w fun e w' => e = .returned (.tuple #[.agg #[.int .u32 (u.at_ : Int), .int .i64 u.len, .int .i64 u.act, .int .i64 u.nxt], .bool true]) ∧ Below w.heap.size w w') := fun v w hv => by
              have h := F2.out v w hv
              rw [ho] at h
              exact h
            clear F2
            have F2 := F2x
            clear F2x
            clear he ho hu hnx hto HPL HFO
            go_wp2_with fail
            refine (F1.out _ wz VM.out).mono ?_
            rintro e1 w14 ⟨rfl, hb⟩
            have HB14 := Lib.hid (HB13.out.trans (hb.mono HB13.out.size))
            replace KG := Lib.hid (KG.out.bel hb)
            replace KS := Lib.hid (KS.out.bel hb)
            replace KY := Lib.hid (KY.out.bel hb)
            replace VT := Lib.hid (VT.out.bel hb)
            replace KA := Lib.hid (KA.out.bel hb)
            replace VM := Lib.hid (VM.out.bel hb)
            clear hb HB13
            go_upto_region 11 with fail
            obtain ⟨w15, hW⟩ : ∃ W, w14.alloc (.cells #[.int .u32 (u.at_ : Int), .int .i64 u.len, .int .i64 u.act, .int .i64 u.nxt] 27) = W := ⟨_, rfl⟩
            obtain ⟨U, hG⟩ : ∃ G, w14.heap.size = G := ⟨_, rfl⟩
            rw [hW, hG]
            have hb : Below w14.heap.size w14 w15 := by subst hW; exact (Below.refl _ _).alloc (Nat.le_refl _) _
            have HB15 := Lib.hid (HB14.out.trans (hb.mono HB14.out.size))
            have LU : Hid (w.heap.size ≤ U) := by subst hG; exact HB14.out.size
            have NGU : Hid (G < U) := by subst hG; exact KG.out.size
            have NSU : Hid (S < U) := by subst hG; exact KS.out.size
            have NYU : Hid (Y < U) := by subst hG; exact KY.out.size
            have NAU : Hid (A < U) := by subst hG; exact KA.out.size
            replace KG := Lib.hid (KG.out.bel hb)
            replace KS := Lib.hid (KS.out.bel hb)
            replace KY := Lib.hid (KY.out.bel hb)
            replace VT := Lib.hid (VT.out.bel hb)
            replace KA := Lib.hid (KA.out.bel hb)
            replace VM := Lib.hid (VM.out.bel hb)
            have KU : Hid (Blk U #[.int .u32 (u.at_ : Int), .int .i64 u.len, .int .i64 u.act, .int .i64 u.nxt] 27 w15) := by subst hW hG; exact Blk.new _ _ _
            clear hb hW hG HB14
            go_wp2_with fail
            refine (F2.out _ w15 VT.out.isr).mono ?_
            rintro e1 w16 ⟨rfl, hb⟩
            have HB16 := Lib.hid (HB15.out.trans (hb.mono HB15.out.size))
            replace KG := Lib.hid (KG.out.bel hb)
            replace KS := Lib.hid (KS.out.bel hb)
            replace KY := Lib.hid (KY.out.bel hb)
            replace VT := Lib.hid (VT.out.bel hb)
            replace KA := Lib.hid (KA.out.bel hb)
            replace VM := Lib.hid (VM.out.bel hb)
            replace KU := Lib.hid (KU.out.bel hb)
            clear hb HB15
            go_upto_region 12 with fail
            obtain ⟨w17, hW⟩ : ∃ W, w16.alloc (.cells #[.int .u32 (u.at_ : Int), .int .i64 u.len, .int .i64 u.act, .int .i64 u.nxt] 27) = W := ⟨_, rfl⟩
            obtain ⟨Q, hG⟩ : ∃ G, w16.heap.size = G := ⟨_, rfl⟩
            rw [hW, hG]
            have hb : Below w16.heap.size w16 w17 := by subst hW; exact (Below.refl _ _).alloc (Nat.le_refl _) _
            have HB17 := Lib.hid (HB16.out.trans (hb.mono HB16.out.size))
            have LQ : Hid (w.heap.size ≤ Q) := by subst hG; exact HB16.out.size
            have NGQ : Hid (G < Q) := by subst hG; exact KG.out.size
            have NSQ : Hid (S < Q) := by subst hG; exact KS.out.size
            have NYQ : Hid (Y < Q) := by subst hG; exact KY.out.size
            have NAQ : Hid (A < Q) := by subst hG; exact KA.out.size
            have NUQ : Hid (U < Q) := by subst hG; exact KU.out.size
            replace KG := Lib.hid (KG.out.bel hb)
            replace KS := Lib.hid (KS.out.bel hb)
            replace KY := Lib.hid (KY.out.bel hb)
            replace VT := Lib.hid (VT.out.bel hb)
            replace KA := Lib.hid (KA.out.bel hb)
            replace VM := Lib.hid (VM.out.bel hb)
            replace KU := Lib.hid (KU.out.bel hb)
            have KQ : Hid (Blk Q #[.int .u32 (u.at_ : Int), .int .i64 u.len, .int .i64 u.act, .int .i64 u.nxt] 27 w17) := by subst hW hG; exact Blk.new _ _ _
            clear hb hW hG HB16
            go_wp2_with fail
            refine (X1.out _ w17 VM.out).mono ?_
            rintro e1 w18 ⟨rfl, hb⟩
            have HB18 := Lib.hid (HB17.out.trans (hb.mono HB17.out.size))
            replace KG := Lib.hid (KG.out.bel hb)
            replace KS := Lib.hid (KS.out.bel hb)
            replace KY := Lib.hid (KY.out.bel hb)
            replace VT := Lib.hid (VT.out.bel hb)
            replace KA := Lib.hid (KA.out.bel hb)
            replace VM := Lib.hid (VM.out.bel hb)
            replace KU := Lib.hid (KU.out.bel hb)
            replace KQ := Lib.hid (KQ.out.bel hb)
            clear hb HB17
            have qG0 := KG.out.cell 0 rfl
            have qG1 := KG.out.cell 1 rfl
            have qG2 := KG.out.cell 2 rfl
            have qG3 := KG.out.cell 3 rfl
            have qS0 := KS.out.cell 0 rfl
            have qS1 := KS.out.cell 1 rfl
            have qS2 := KS.out.cell 2 rfl
            have qS3 := KS.out.cell 3 rfl
            have qY0 := KY.out.cell 0 rfl
            have qY1 := KY.out.cell 1 rfl
            have qY2 := KY.out.cell 2 rfl
            have qY3 := KY.out.cell 3 rfl
            have qA0 := KA.out.cell 0 rfl
            have qA1 := KA.out.cell 1 rfl
            have qA2 := KA.out.cell 2 rfl
            have qA3 := KA.out.cell 3 rfl
            have qU0 := KU.out.cell 0 rfl
            have qU1 := KU.out.cell 1 rfl
            have qU2 := KU.out.cell 2 rfl
            have qU3 := KU.out.cell 3 rfl
            have qQ0 := KQ.out.cell 0 rfl
            have qQ1 := KQ.out.cell 1 rfl
            have qQ2 := KQ.out.cell 2 rfl
            have qQ3 := KQ.out.cell 3 rfl
            go_wp2_with fail
            refine (CH.out w18).mono ?_
            rintro e1 w19 ⟨rfl, hb⟩
            clear qG0 qG1 qG2 qG3 qS0 qS1 qS2 qS3 qY0 qY1 qY2 qY3 qA0 qA1 qA2 qA3 qU0 qU1 qU2 qU3 qQ0 qQ1 qQ2 qQ3
            have HB19 := Lib.hid (HB18.out.trans (hb.mono HB18.out.size))
            replace KG := Lib.hid (KG.out.bel hb)
            replace KS := Lib.hid (KS.out.bel hb)
            replace KY := Lib.hid (KY.out.bel hb)
            replace VT := Lib.hid (VT.out.bel hb)
            replace KA := Lib.hid (KA.out.bel hb)
            replace VM := Lib.hid (VM.out.bel hb)
            replace KU := Lib.hid (KU.out.bel hb)
            replace KQ := Lib.hid (KQ.out.bel hb)
            clear hb HB18
            have qG0 := KG.out.cell 0 rfl
            have qG1 := KG.out.cell 1 rfl
            have qG2 := KG.out.cell 2 rfl
            have qG3 := KG.out.cell 3 rfl
            have qS0 := KS.out.cell 0 rfl
            have qS1 := KS.out.cell 1 rfl
            have qS2 := KS.out.cell 2 rfl
            have qS3 := KS.out.cell 3 rfl
            have qY0 := KY.out.cell 0 rfl
            have qY1 := KY.out.cell 1 rfl
            have qY2 := KY.out.cell 2 rfl
            have qY3 := KY.out.cell 3 rfl
            have qA0 := KA.out.cell 0 rfl
            have qA1 := KA.out.cell 1 rfl
            have qA2 := KA.out.cell 2 rfl
            have qA3 := KA.out.cell 3 rfl
            have qU0 := KU.out.cell 0 rfl
            have qU1 := KU.out.cell 1 rfl
            have qU2 := KU.out.cell 2 rfl
            have qU3 := KU.out.cell 3 rfl
            have qQ0 := KQ.out.cell 0 rfl
            have qQ1 := KQ.out.cell 1 rfl
            have qQ2 := KQ.out.cell 2 rfl
            have qQ3 := KQ.out.cell 3 rfl
            go_wp2_with fail
            refine (FM.out _ w19 VM.out).mono ?_
            rintro e1 w20 ⟨rfl, hb⟩
            clear qG0 qG1 qG2 qG3 qS0 qS1 qS2 qS3 qY0 qY1 qY2 qY3 qA0 qA1 qA2 qA3 qU0 qU1 qU2 qU3 qQ0 qQ1 qQ2 qQ3
            have HB20 := Lib.hid (HB19.out.trans (hb.mono HB19.out.size))
            replace KG := Lib.hid (KG.out.bel hb)
            replace KS := Lib.hid (KS.out.bel hb)
            replace KY := Lib.hid (KY.out.bel hb)
            replace VT := Lib.hid (VT.out.bel hb)
            replace KA := Lib.hid (KA.out.bel hb)
            replace VM := Lib.hid (VM.out.bel hb)
            replace KU := Lib.hid (KU.out.bel hb)
            replace KQ := Lib.hid (KQ.out.bel hb)
            clear hb HB19
            have qG0 := KG.out.cell 0 rfl
            have qG1 := KG.out.cell 1 rfl
            have qG2 := KG.out.cell 2 rfl
            have qG3 := KG.out.cell 3 rfl
            have qS0 := KS.out.cell 0 rfl
            have qS1 := KS.out.cell 1 rfl
            have qS2 := KS.out.cell 2 rfl
            have qS3 := KS.out.cell 3 rfl
            have qY0 := KY.out.cell 0 rfl
            have qY1 := KY.out.cell 1 rfl
            have qY2 := KY.out.cell 2 rfl
            have qY3 := KY.out.cell 3 rfl
            have qA0 := KA.out.cell 0 rfl
            have qA1 := KA.out.cell 1 rfl
            have qA2 := KA.out.cell 2 rfl
            have qA3 := KA.out.cell 3 rfl
            have qU0 := KU.out.cell 0 rfl
            have qU1 := KU.out.cell 1 rfl
            have qU2 := KU.out.cell 2 rfl
            have qU3 := KU.out.cell 3 rfl
            have qQ0 := KQ.out.cell 0 rfl
            have qQ1 := KQ.out.cell 1 rfl
            have qQ2 := KQ.out.cell 2 rfl
            have qQ3 := KQ.out.cell 3 rfl
            go_wp2_with fail
            go_ret
            exact ⟨rfl, HB20.out⟩
end Go.Proofs.Ytenkpoppbjgclaa
