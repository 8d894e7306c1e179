/- The helper of the laws of package theseuslaw10: few. -/
import Derived.Test.YtohggpaffmcfoaaDoorNetOwn
import Derived.Test.YtohggpaffmcfoaaDoorBlk
import Derived.Deep.DeepCutAuto
import Derived.Deep.AppendLies
import Derived.Deep.RegionHeld3
import Derived.Lib.MinMax
import Derived.Laws.CopyOwn
namespace Go.Proofs.YtohggpaffmcfoaaDoor
open Go.RowKit
set_option linter.unusedVariables false
set_option maxRecDepth 100000
set_option linter.unusedSimpArgs false
attribute [local go_sem ↓] sliced_cut
attribute [local go_sem] cutA_zero

theorem isr_take {w : World} {B : Option Addr} {L m J : Nat} {l : List Rl} (h : IsR w (.slice B L m) l) (hJ : min L 20 = J) : IsR w (.slice B J m) (l.take 20) := by
  obtain ⟨B', n', c', e, h1, h2, h3, h4⟩ := h
  injection e with e1 e2 e3
  subst e1 e2 e3
  refine ⟨_, _, _, rfl, by omega, h2, by rw [List.length_take]; omega, ?_⟩
  have h5 := h4.take (20 * 4)
  rw [← rcells_take] at h5
  exact h5
theorem few_end {N : Nt} {k : Nat} (hk : k ≤ 8) (h : N.length ≤ k ∨ k = 8) : (N.take k).map (List.take 20) = fewN N := by
  unfold fewN
  rcases h with h | rfl
  · rw [List.take_of_length_le h, List.take_of_length_le (by omega)]
  · rfl
set_option maxHeartbeats 8000000 in
theorem few10 (v : Value) (N : Nt) (w : World) (hv : IsN w v N) :
    Calls Tryd.prog 12 #[v] w fun e w' => ∃ u, e = .returned u ∧ IsN w' u (fewN N) ∧ Below w.heap.size w w' := by
  obtain ⟨A, c, rfl, hc, hm, hS⟩ := hv.slice
  obtain ⟨n, hn⟩ : ∃ n, N.length = n := ⟨_, rfl⟩
  rw [hn] at hc hS ⊢
  have HN := Lib.hid hn
  have hnm : (n : Int) ≤ 9223372036854775807 := by unfold maxLen at hm; omega
  have HII := Lib.hid row_info
  have HSN := Lib.hid hS
  obtain ⟨g, hg⟩ : ∃ g, w.heap.size = g := ⟨_, rfl⟩
  have HGG := Lib.hid hg
  have hA1 : ((w.alloc (.cells #[.slice A n c] 24)).alloc (.cells #[.slice none 0 0] 24)).heap.size = g + 2 := by rw [World.size_alloc, World.size_alloc, hg]
  have HK1 : Hid (Blk g #[.slice A n c] 24 (((w.alloc (.cells #[.slice A n c] 24)).alloc (.cells #[.slice none 0 0] 24)).alloc (.cells #[.slice none 0 0] 24))) := by
    subst hg
    exact ((Blk.new w _ _).bel ((Below.refl _ _).alloc (Nat.le_refl _) _)).bel ((Below.refl _ _).alloc (Nat.le_refl _) _)
  have HR1 : Hid (Blk (g + 1) #[.slice none 0 0] 24 (((w.alloc (.cells #[.slice A n c] 24)).alloc (.cells #[.slice none 0 0] 24)).alloc (.cells #[.slice none 0 0] 24))) := by
    have h := Blk.new (w.alloc (.cells #[.slice A n c] 24)) #[.slice none 0 0] 24
    rw [World.size_alloc, hg] at h
    exact h.bel ((Below.refl _ _).alloc (Nat.le_refl _) _)
  have HG1 : Hid (Blk (g + 2) #[.slice none 0 0] 24 (((w.alloc (.cells #[.slice A n c] 24)).alloc (.cells #[.slice none 0 0] 24)).alloc (.cells #[.slice none 0 0] 24))) := by
    have h := Blk.new ((w.alloc (.cells #[.slice A n c] 24)).alloc (.cells #[.slice none 0 0] 24)) #[.slice none 0 0] 24
    rw [hA1] at h
    exact h
  have HB1 : Hid (Below g w (((w.alloc (.cells #[.slice A n c] 24)).alloc (.cells #[.slice none 0 0] 24)).alloc (.cells #[.slice none 0 0] 24))) := by
    subst hg
    exact (((Below.refl w.heap.size w).alloc (Nat.le_refl _) _).alloc (by simp only [World.size_alloc]; omega) _).alloc (by simp only [World.size_alloc]; omega) _
  have HZ1 : Hid (g + 3 ≤ (((w.alloc (.cells #[.slice A n c] 24)).alloc (.cells #[.slice none 0 0] 24)).alloc (.cells #[.slice none 0 0] 24)).heap.size) := by show _ ≤ _; rw [World.size_alloc, hA1]; omega
  clear hv hS hn hc hm hA1
  go_enter Tryd.func12, Tryd.ntmps12
  go_wp2
  clear hg
  generalize (((w.alloc (.cells #[.slice A n c] 24)).alloc (.cells #[.slice none 0 0] 24)).alloc (.cells #[.slice none 0 0] 24)) = w1 at *
  go_loopw [4] (fun i wr => ∃ k : Nat, ∃ x : Value, ∃ vs : List Value, k ≤ n ∧ k ≤ 8 ∧ i = .int .i64 k ∧ Hid (Blk g #[.slice A n c] 24 wr) ∧ Hid (Blk (g + 1) #[.slice none 0 0] 24 wr) ∧ Hid (Blk (g + 2) #[x] 24 wr) ∧ Hid (wr.ownsRow (g + 3) 42 1 x k vs) ∧ Hid (RowsOf w ((N.take k).map (List.take 20)) vs) ∧ Hid (g + 3 ≤ wr.heap.size) ∧ Hid (Below g w wr)) (fun i _ => 8 - (intOf i).toNat)
  case atStart => exact ⟨0, .slice none 0 0, [], by omega, by omega, rfl, HK1, HR1, HG1, World.ownsRow_nil _ _ _ _, RowsOf.nil _, HZ1, HB1⟩
  case round =>
    clear HK1 HR1 HG1 HZ1 HB1
    obtain ⟨k, x, vs, hkn, hk8, rfl, HK, HR, HG, HO, HT, HZ, HB⟩ := hrel
    by_cases hend : k < n ∧ k < 8
    · obtain ⟨hlt, hlt8⟩ := hend
      have hkl : k < N.length := by rw [HN.out]; exact hlt
      have hki : (k : Int) < (n : Int) := by omega
      have hk2 : (k : Int) < 8 := by omega
      have hkz : (0 : Int) ≤ (k : Int) := by omega
      obtain ⟨ad, B, m, rfl, hlm, hmm, hr, hall⟩ := HSN.out.all k hkl
      have hcell := hall wr (by rw [HGG.out]; exact HB.out)
      have hst := few_succ N k hkl
      generalize N[k] = l at *
      obtain ⟨L, hL⟩ : ∃ L, l.length = L := ⟨_, rfl⟩
      rw [hL] at hcell hlm hr
      obtain ⟨J, hJ⟩ : ∃ J, min L 20 = J := ⟨_, rfl⟩
      have hJ1 : (min (L : Int) 20).toNat = J := by omega
      have hJ2 : (0 : Int) ≤ min (L : Int) 20 := by omega
      have hJ3 : min (L : Int) 20 ≤ (m : Int) := by omega
      have HST := Lib.hid hst
      have HV := Lib.hid (isr_take hr hJ)
      have HALL : Hid (∀ wx, Below g w wx → wx.cell? (ad.add k) = some (.slice B L m)) := fun wx hx => by
        have h := hall wx (by rw [HGG.out]; exact hx)
        rw [hL] at h
        exact h
      clear hall hst hr hL hJ hmm
      have q0 := HK.out.cell 0 rfl
      have q2 : wr.cell? ⟨g + 1 + 1, 0, none⟩ = some x := HG.out.cell 0 rfl
      obtain ⟨i0, hi0, hz0, hz1, hz2⟩ := info_parts HII.out
      go_upto_region 5 with fail
      have p2 : wr.drew.cell? ⟨g + 1 + 1, 0, none⟩ = some x := q2
      have D9 : Below wr.heap.size wr ((wr.alloc (.cells #[.slice B J m] 42)).drew) := ((Below.refl _ _).alloc (Nat.le_refl _) _).drew
      have p3 : ((wr.alloc (.cells #[.slice B J m] 42)).drew).cell? ⟨g + 1 + 1, 0, none⟩ = some x := (HG.out.bel D9).cell 0 rfl
      have HSW : Hid (g ≤ wr.heap.size) := by show _ ≤ _; have := HZ.out; omega
      clear q0 q2 hcell
      refine wp_region_held_drew (S := fun w' => w'.cell? ⟨g, 0, none⟩ = some (.slice (some ad) n c) ∧ w'.cell? (ad.add k) = some (.slice B L m)) (by kernel_rfl) (⟨HK.out.cell 0 rfl, HALL.out wr.drew HB.out.drew⟩) (fun hHeld => ?_)
      refine wpAnyH_take (i := 0) (oi := ({ dst := some 17, op := Op.fieldAddr 24 (Operand.tmp 3) 0, type := 0, pos := "law.go:24", after := #[], guard := none } : Oper)) (v := ?_) rfl (by kernel_rfl) (by kernel_rfl) (by kernel_rfl) (fun _ _ _ h => h) (Or.inl ⟨by rfl, ?_⟩) (by assumption) ?_
      rotate_left 1
      · intro w hSw
        (try dsimp only at hSw)
        go_simp
        try with_reducible rfl
      try simp only [Act.put, List.setIfInBounds_toArray, List.set_cons_zero, List.set_cons_succ]
      refine wpAnyH_take (i := 2) (oi := ({ dst := some 19, op := Op.fieldAddr 24 (Operand.tmp 1) 0, type := 0, pos := "law.go:24", after := #[], guard := none } : Oper)) (v := ?_) rfl (by kernel_rfl) (by kernel_rfl) (by kernel_rfl) (fun _ _ _ h => h) (Or.inl ⟨by rfl, ?_⟩) (by assumption) ?_
      rotate_left 1
      · intro w hSw
        (try dsimp only at hSw)
        go_simp
        try with_reducible rfl
      try simp only [Act.put, List.setIfInBounds_toArray, List.set_cons_zero, List.set_cons_succ]
      refine wpAnyH_take (i := 3) (oi := ({ dst := some 20, op := Op.load 22 (Operand.tmp 19), type := 22, pos := "law.go:24", after := #[{ on := 2, ground := Ground.data }], guard := none } : Oper)) (v := ?_) rfl (by kernel_rfl) (by kernel_rfl) (by kernel_rfl) (fun _ _ _ h => h) (Or.inl ⟨by rfl, ?_⟩) (by assumption) ?_
      rotate_left 1
      · intro w hSw
        (try dsimp only at hSw)
        go_simp
        try with_reducible rfl
      try simp only [Act.put, List.setIfInBounds_toArray, List.set_cons_zero, List.set_cons_succ]
      refine wpAnyH_take (i := 4) (oi := ({ dst := some 21, op := Op.move (Operand.tmp 4), type := 3, pos := "law.go:24", after := #[], guard := none } : Oper)) (v := ?_) rfl (by kernel_rfl) (by kernel_rfl) (by kernel_rfl) (fun _ _ _ h => h) (Or.inl ⟨by rfl, ?_⟩) (by assumption) ?_
      rotate_left 1
      · intro w hSw
        (try dsimp only at hSw)
        go_simp
        try with_reducible rfl
      try simp only [Act.put, List.setIfInBounds_toArray, List.set_cons_zero, List.set_cons_succ]
      refine wpAnyH_take (i := 5) (oi := ({ dst := some 22, op := Op.indexAddr 22 (Operand.tmp 20) (Operand.tmp 21), type := 0, pos := "law.go:24", after := #[{ on := 3, ground := Ground.data }, { on := 4, ground := Ground.data }], guard := none } : Oper)) (v := ?_) rfl (by kernel_rfl) (by kernel_rfl) (by kernel_rfl) (fun _ _ _ h => h) (Or.inl ⟨by rfl, ?_⟩) (by assumption) ?_
      rotate_left 1
      · intro w hSw
        (try dsimp only at hSw)
        go_simp
        try with_reducible rfl
      try simp only [Act.put, List.setIfInBounds_toArray, List.set_cons_zero, List.set_cons_succ]
      refine wpAnyH_take (i := 6) (oi := ({ dst := some 23, op := Op.load 42 (Operand.tmp 22), type := 42, pos := "law.go:24", after := #[{ on := 5, ground := Ground.data }], guard := none } : Oper)) (v := ?_) rfl (by kernel_rfl) (by kernel_rfl) (by kernel_rfl) (fun _ _ _ h => h) (Or.inl ⟨by rfl, ?_⟩) (by assumption) ?_
      rotate_left 1
      · intro w hSw
        (try dsimp only at hSw)
        go_simp
        try with_reducible rfl
      try simp only [Act.put, List.setIfInBounds_toArray, List.set_cons_zero, List.set_cons_succ]
      refine wpAnyH_take (i := 7) (oi := ({ dst := some 24, op := Op.fieldAddr 24 (Operand.tmp 1) 0, type := 0, pos := "law.go:24", after := #[], guard := none } : Oper)) (v := ?_) rfl (by kernel_rfl) (by kernel_rfl) (by kernel_rfl) (fun _ _ _ h => h) (Or.inl ⟨by rfl, ?_⟩) (by assumption) ?_
      rotate_left 1
      · intro w hSw
        (try dsimp only at hSw)
        go_simp
        try with_reducible rfl
      try simp only [Act.put, List.setIfInBounds_toArray, List.set_cons_zero, List.set_cons_succ]
      refine wpAnyH_take (i := 8) (oi := ({ dst := some 25, op := Op.load 22 (Operand.tmp 24), type := 22, pos := "law.go:24", after := #[{ on := 7, ground := Ground.data }], guard := none } : Oper)) (v := ?_) rfl (by kernel_rfl) (by kernel_rfl) (by kernel_rfl) (fun _ _ _ h => h) (Or.inl ⟨by rfl, ?_⟩) (by assumption) ?_
      rotate_left 1
      · intro w hSw
        (try dsimp only at hSw)
        go_simp
        try with_reducible rfl
      try simp only [Act.put, List.setIfInBounds_toArray, List.set_cons_zero, List.set_cons_succ]
      refine wpAnyH_take (i := 9) (oi := ({ dst := some 26, op := Op.move (Operand.tmp 4), type := 3, pos := "law.go:24", after := #[], guard := none } : Oper)) (v := ?_) rfl (by kernel_rfl) (by kernel_rfl) (by kernel_rfl) (fun _ _ _ h => h) (Or.inl ⟨by rfl, ?_⟩) (by assumption) ?_
      rotate_left 1
      · intro w hSw
        (try dsimp only at hSw)
        go_simp
        try with_reducible rfl
      try simp only [Act.put, List.setIfInBounds_toArray, List.set_cons_zero, List.set_cons_succ]
      refine wpAnyH_take (i := 10) (oi := ({ dst := some 27, op := Op.indexAddr 22 (Operand.tmp 25) (Operand.tmp 26), type := 0, pos := "law.go:24", after := #[{ on := 8, ground := Ground.data }, { on := 9, ground := Ground.data }], guard := none } : Oper)) (v := ?_) rfl (by kernel_rfl) (by kernel_rfl) (by kernel_rfl) (fun _ _ _ h => h) (Or.inl ⟨by rfl, ?_⟩) (by assumption) ?_
      rotate_left 1
      · intro w hSw
        (try dsimp only at hSw)
        go_simp
        try with_reducible rfl
      try simp only [Act.put, List.setIfInBounds_toArray, List.set_cons_zero, List.set_cons_succ]
      refine wpAnyH_take (i := 11) (oi := ({ dst := some 28, op := Op.load 42 (Operand.tmp 27), type := 42, pos := "law.go:24", after := #[{ on := 10, ground := Ground.data }], guard := none } : Oper)) (v := ?_) rfl (by kernel_rfl) (by kernel_rfl) (by kernel_rfl) (fun _ _ _ h => h) (Or.inl ⟨by rfl, ?_⟩) (by assumption) ?_
      rotate_left 1
      · intro w hSw
        (try dsimp only at hSw)
        go_simp
        try with_reducible rfl
      try simp only [Act.put, List.setIfInBounds_toArray, List.set_cons_zero, List.set_cons_succ]
      refine wpAnyH_take (i := 12) (oi := ({ dst := some 29, op := Op.call { callee := Callee.builtin Builtin.len, args := #[Operand.tmp 28], argTypes := #[42] }, type := 3, pos := "law.go:24", after := #[{ on := 11, ground := Ground.data }], guard := none } : Oper)) (v := ?_) rfl (by kernel_rfl) (by kernel_rfl) (by kernel_rfl) (fun _ _ _ h => h) (Or.inl ⟨by rfl, ?_⟩) (by assumption) ?_
      rotate_left 1
      · intro w hSw
        (try dsimp only at hSw)
        go_simp
        try with_reducible rfl
      try simp only [Act.put, List.setIfInBounds_toArray, List.set_cons_zero, List.set_cons_succ]
      refine wpAnyH_take (i := 13) (oi := ({ dst := some 30, op := Op.call { callee := Callee.builtin Builtin.min, args := #[Operand.tmp 29, Operand.const (Value.int IntKind.i64 20)], argTypes := #[3, 3] }, type := 3, pos := "law.go:24", after := #[{ on := 12, ground := Ground.data }], guard := none } : Oper)) (v := ?_) rfl (by kernel_rfl) (by kernel_rfl) (by kernel_rfl) (fun _ _ _ h => h) (Or.inl ⟨by rfl, ?_⟩) (by assumption) ?_
      rotate_left 1
      · intro w hSw
        (try dsimp only at hSw)
        go_simp
        try with_reducible rfl
      try simp only [Act.put, List.setIfInBounds_toArray, List.set_cons_zero, List.set_cons_succ]
      refine wpAnyH_take (i := 14) (oi := ({ dst := some 31, op := Op.slice 42 (Operand.tmp 23) none (some (Operand.tmp 30)) none, type := 42, pos := "law.go:24", after := #[{ on := 6, ground := Ground.data }, { on := 13, ground := Ground.data }], guard := none } : Oper)) (v := ?_) rfl (by kernel_rfl) (by kernel_rfl) (by kernel_rfl) (fun _ _ _ h => h) (Or.inl ⟨by rfl, ?_⟩) (by assumption) ?_
      rotate_left 1
      · intro w hSw
        (try dsimp only at hSw)
        go_simp
        try with_reducible rfl
      try simp only [Act.put, List.setIfInBounds_toArray, List.set_cons_zero, List.set_cons_succ]
      refine wpAnyH_ready (rs := [1, 15]) (by kernel_rfl) (by simp) ?_
      refine AllReadyH.cons rfl (fun K hK => ?_) (AllReadyH.cons rfl (fun K hK => ?_) AllReadyH.nil)
      · go_simp
        refine hK.out _ _ (by assumption) (fun hHeld => ?_)
        clear hK K
        try simp only [Act.put, List.setIfInBounds_toArray, List.set_cons_zero, List.set_cons_succ]
        refine wpAnyH_ready (rs := [15]) (by kernel_rfl) (by simp) ?_
        refine AllReadyH.cons rfl (fun K hK => ?_) AllReadyH.nil
        go_simp
        refine hK.out _ _ (⟨(HK.out.bel D9).cell 0 rfl, HALL.out _ (HB.out.trans (D9.mono HSW.out))⟩) (fun hHeld => ?_)
        clear hK K
        try simp only [Act.put, List.setIfInBounds_toArray, List.set_cons_zero, List.set_cons_succ]
        refine wpAnyH_ready (rs := [16]) (by kernel_rfl) (by simp) ?_
        refine AllReadyH.cons rfl (fun K hK => ?_) AllReadyH.nil
        refine step_append_has _ (by rfl) (.tmp 18) (.tmp 32) _ (by rfl) (g + 3) 42 i0 (.slice none 0 0) 24 Tryd.underlying22 hi0 hz0 hz1 hz2 rfl x k vs (by rfl) (own_bel HO.out D9) _ 1 _ [.slice B J m] (by rfl) rfl (Has.new wr [.slice B J m] 42 (0, 0)).drew (by simp [Value.oneCell']) (by unfold maxLen; omega) (by omega) (by have := HZ.out; have := D9.size; omega) ?_
        intro v9 w9 hown9 hgrow9 hat9
        obtain ⟨b9, c9, hv9, _, _⟩ := World.ownsRow.form hown9 (by omega)
        subst hv9
        have hne9 : ∀ q, q < g + 3 → x.ownBlock ≠ some q := fun q hq e => by have := (HO.out.lt q e).1; omega
        have HG9 := Lib.hid ((HG.out.bel D9).grown hgrow9 (hne9 (g + 2) (by omega)))
        have q9 : w9.cell? ⟨g + 1 + 1, 0, none⟩ = some x := HG9.out.cell 0 rfl
        have z9 : w9.frozen? ⟨g + 1 + 1, 0, none⟩ = false := HG9.out.froz 0
        have HK9 := Lib.hid ((HK.out.bel D9).grown hgrow9 (hne9 g (by omega)))
        have HB9 : Hid (Below g w w9) := (HB.out.trans (D9.mono HSW.out)).grown hgrow9 (by have := HZ.out; have := D9.size; omega) (fun q hq => by have := (HO.out.lt q hq).1; omega)
        try go_simp
        refine hK.out _ _ (⟨HK9.out.cell 0 rfl, HALL.out _ HB9.out⟩) (fun hHeld => ?_)
        clear hK K
        try simp only [Act.put, List.setIfInBounds_toArray, List.set_cons_zero, List.set_cons_succ]
        refine wpAnyH_take (i := 17) (oi := ({ dst := some 34, op := Op.fieldAddr 24 (Operand.tmp 3) 0, type := 0, pos := "law.go:24", after := #[{ on := 0, ground := Ground.phase }, { on := 1, ground := Ground.phase }, { on := 2, ground := Ground.phase }, { on := 3, ground := Ground.phase }, { on := 4, ground := Ground.phase }, { on := 5, ground := Ground.phase }, { on := 6, ground := Ground.phase }, { on := 7, ground := Ground.phase }, { on := 8, ground := Ground.phase }, { on := 9, ground := Ground.phase }, { on := 10, ground := Ground.phase }, { on := 11, ground := Ground.phase }, { on := 12, ground := Ground.phase }, { on := 13, ground := Ground.phase }, { on := 14, ground := Ground.phase }, { on := 15, ground := Ground.phase }, { on := 16, ground := Ground.phase }], guard := none } : Oper)) (v := ?_) rfl (by kernel_rfl) (by kernel_rfl) (by kernel_rfl) (fun _ _ _ h => h) (Or.inl ⟨by rfl, ?_⟩) (by assumption) ?_
        rotate_left 1
        · intro w hSw
          (try dsimp only at hSw)
          go_simp
          try with_reducible rfl
        try simp only [Act.put, List.setIfInBounds_toArray, List.set_cons_zero, List.set_cons_succ]
        refine wpAnyH_ready (rs := [18]) (by kernel_rfl) (by simp) ?_
        refine AllReadyH.cons rfl (fun K hK => ?_) AllReadyH.nil
        go_simp
        refine hK.out _ _ (⟨(HK9.out.far (g + 2) 0 _ (by omega)).cell 0 rfl, HALL.out _ (HB9.out.setCell (p := ⟨g + 2, 0, none⟩) (by show g ≤ g + 2; omega) _)⟩) (fun hHeld => ?_)
        clear hK K
        try simp only [Act.put, List.setIfInBounds_toArray, List.set_cons_zero, List.set_cons_succ]
        refine wpAnyH_done (by kernel_rfl) ?_ _
        have HK10 : Hid (Blk g #[.slice (some ad) n c] 24 (w9.setCell ⟨g + 2, 0, none⟩ (.slice (some ⟨b9, 0, none⟩) (k + 1) c9))) := HK9.out.far (g + 2) 0 _ (by omega)
        have HR10 : Hid (Blk (g + 1) #[.slice none 0 0] 24 (w9.setCell ⟨g + 2, 0, none⟩ (.slice (some ⟨b9, 0, none⟩) (k + 1) c9))) := ((HR.out.bel D9).grown hgrow9 (hne9 (g + 1) (by omega))).far (g + 2) 0 _ (by omega)
        have HG10 : Hid (Blk (g + 2) #[(.slice (some ⟨b9, 0, none⟩) (k + 1) c9)] 24 (w9.setCell ⟨g + 2, 0, none⟩ (.slice (some ⟨b9, 0, none⟩) (k + 1) c9))) := HG9.out.set 0 _ rfl
        have HO10 : Hid ((w9.setCell ⟨g + 2, 0, none⟩ (.slice (some ⟨b9, 0, none⟩) (k + 1) c9)).ownsRow (g + 3) 42 1 (.slice (some ⟨b9, 0, none⟩) (k + 1) c9) (k + 1) (vs ++ [.slice B J m])) := ownsRow_setCell_below hown9 (by show g + 2 < g + 3; omega) _
        have HT10 : Hid (RowsOf w ((N.take (k + 1)).map (List.take 20)) (vs ++ [.slice B J m])) := by
          rw [HST.out]
          exact HT.out.snoc HV.out
        have HB10 : Hid (Below g w (w9.setCell ⟨g + 2, 0, none⟩ (.slice (some ⟨b9, 0, none⟩) (k + 1) c9))) := HB9.out.setCell (p := ⟨g + 2, 0, none⟩) (by show g ≤ g + 2; omega) _
        have HZ10 : Hid (g + 3 ≤ (w9.setCell ⟨g + 2, 0, none⟩ (.slice (some ⟨b9, 0, none⟩) (k + 1) c9)).heap.size) := by
          show _ ≤ _
          have h0 := HZ.out
          have h1 := hgrow9.size
          have h2 := D9.size
          simp only [World.size_setCell]
          omega
        clear hown9 hgrow9 hat9 hne9 D9 HG9 q9 z9 p2 p3 HK HR HG HO HT HB HST HV hi0 hz0 hz1 hz2 HK9 HB9 HALL HSW
        go_wp2_with fail
        go_roundw
        case rel => exact ⟨k + 1, _, _, by omega, by omega, by go_num, HK10, HR10, HG10, HO10, HT10, HZ10, HB10⟩
        case measure => simp [intOf]; omega
      · go_simp
        refine hK.out _ _ (⟨(HK.out.bel D9).cell 0 rfl, HALL.out _ (HB.out.trans (D9.mono HSW.out))⟩) (fun hHeld => ?_)
        clear hK K
        try simp only [Act.put, List.setIfInBounds_toArray, List.set_cons_zero, List.set_cons_succ]
        refine wpAnyH_ready (rs := [1]) (by kernel_rfl) (by simp) ?_
        refine AllReadyH.cons rfl (fun K hK => ?_) AllReadyH.nil
        go_simp
        refine hK.out _ _ (by assumption) (fun hHeld => ?_)
        clear hK K
        try simp only [Act.put, List.setIfInBounds_toArray, List.set_cons_zero, List.set_cons_succ]
        refine wpAnyH_ready (rs := [16]) (by kernel_rfl) (by simp) ?_
        refine AllReadyH.cons rfl (fun K hK => ?_) AllReadyH.nil
        refine step_append_has _ (by rfl) (.tmp 18) (.tmp 32) _ (by rfl) (g + 3) 42 i0 (.slice none 0 0) 24 Tryd.underlying22 hi0 hz0 hz1 hz2 rfl x k vs (by rfl) (own_bel HO.out D9) _ 1 _ [.slice B J m] (by rfl) rfl (Has.new wr [.slice B J m] 42 (0, 0)).drew (by simp [Value.oneCell']) (by unfold maxLen; omega) (by omega) (by have := HZ.out; have := D9.size; omega) ?_
        intro v9 w9 hown9 hgrow9 hat9
        obtain ⟨b9, c9, hv9, _, _⟩ := World.ownsRow.form hown9 (by omega)
        subst hv9
        have hne9 : ∀ q, q < g + 3 → x.ownBlock ≠ some q := fun q hq e => by have := (HO.out.lt q e).1; omega
        have HG9 := Lib.hid ((HG.out.bel D9).grown hgrow9 (hne9 (g + 2) (by omega)))
        have q9 : w9.cell? ⟨g + 1 + 1, 0, none⟩ = some x := HG9.out.cell 0 rfl
        have z9 : w9.frozen? ⟨g + 1 + 1, 0, none⟩ = false := HG9.out.froz 0
        have HK9 := Lib.hid ((HK.out.bel D9).grown hgrow9 (hne9 g (by omega)))
        have HB9 : Hid (Below g w w9) := (HB.out.trans (D9.mono HSW.out)).grown hgrow9 (by have := HZ.out; have := D9.size; omega) (fun q hq => by have := (HO.out.lt q hq).1; omega)
        try go_simp
        refine hK.out _ _ (⟨HK9.out.cell 0 rfl, HALL.out _ HB9.out⟩) (fun hHeld => ?_)
        clear hK K
        try simp only [Act.put, List.setIfInBounds_toArray, List.set_cons_zero, List.set_cons_succ]
        refine wpAnyH_take (i := 17) (oi := ({ dst := some 34, op := Op.fieldAddr 24 (Operand.tmp 3) 0, type := 0, pos := "law.go:24", after := #[{ on := 0, ground := Ground.phase }, { on := 1, ground := Ground.phase }, { on := 2, ground := Ground.phase }, { on := 3, ground := Ground.phase }, { on := 4, ground := Ground.phase }, { on := 5, ground := Ground.phase }, { on := 6, ground := Ground.phase }, { on := 7, ground := Ground.phase }, { on := 8, ground := Ground.phase }, { on := 9, ground := Ground.phase }, { on := 10, ground := Ground.phase }, { on := 11, ground := Ground.phase }, { on := 12, ground := Ground.phase }, { on := 13, ground := Ground.phase }, { on := 14, ground := Ground.phase }, { on := 15, ground := Ground.phase }, { on := 16, ground := Ground.phase }], guard := none } : Oper)) (v := ?_) rfl (by kernel_rfl) (by kernel_rfl) (by kernel_rfl) (fun _ _ _ h => h) (Or.inl ⟨by rfl, ?_⟩) (by assumption) ?_
        rotate_left 1
        · intro w hSw
          (try dsimp only at hSw)
          go_simp
          try with_reducible rfl
        try simp only [Act.put, List.setIfInBounds_toArray, List.set_cons_zero, List.set_cons_succ]
        refine wpAnyH_ready (rs := [18]) (by kernel_rfl) (by simp) ?_
        refine AllReadyH.cons rfl (fun K hK => ?_) AllReadyH.nil
        go_simp
        refine hK.out _ _ (⟨(HK9.out.far (g + 2) 0 _ (by omega)).cell 0 rfl, HALL.out _ (HB9.out.setCell (p := ⟨g + 2, 0, none⟩) (by show g ≤ g + 2; omega) _)⟩) (fun hHeld => ?_)
        clear hK K
        try simp only [Act.put, List.setIfInBounds_toArray, List.set_cons_zero, List.set_cons_succ]
        refine wpAnyH_done (by kernel_rfl) ?_ _
        have HK10 : Hid (Blk g #[.slice (some ad) n c] 24 (w9.setCell ⟨g + 2, 0, none⟩ (.slice (some ⟨b9, 0, none⟩) (k + 1) c9))) := HK9.out.far (g + 2) 0 _ (by omega)
        have HR10 : Hid (Blk (g + 1) #[.slice none 0 0] 24 (w9.setCell ⟨g + 2, 0, none⟩ (.slice (some ⟨b9, 0, none⟩) (k + 1) c9))) := ((HR.out.bel D9).grown hgrow9 (hne9 (g + 1) (by omega))).far (g + 2) 0 _ (by omega)
        have HG10 : Hid (Blk (g + 2) #[(.slice (some ⟨b9, 0, none⟩) (k + 1) c9)] 24 (w9.setCell ⟨g + 2, 0, none⟩ (.slice (some ⟨b9, 0, none⟩) (k + 1) c9))) := HG9.out.set 0 _ rfl
        have HO10 : Hid ((w9.setCell ⟨g + 2, 0, none⟩ (.slice (some ⟨b9, 0, none⟩) (k + 1) c9)).ownsRow (g + 3) 42 1 (.slice (some ⟨b9, 0, none⟩) (k + 1) c9) (k + 1) (vs ++ [.slice B J m])) := ownsRow_setCell_below hown9 (by show g + 2 < g + 3; omega) _
        have HT10 : Hid (RowsOf w ((N.take (k + 1)).map (List.take 20)) (vs ++ [.slice B J m])) := by
          rw [HST.out]
          exact HT.out.snoc HV.out
        have HB10 : Hid (Below g w (w9.setCell ⟨g + 2, 0, none⟩ (.slice (some ⟨b9, 0, none⟩) (k + 1) c9))) := HB9.out.setCell (p := ⟨g + 2, 0, none⟩) (by show g ≤ g + 2; omega) _
        have HZ10 : Hid (g + 3 ≤ (w9.setCell ⟨g + 2, 0, none⟩ (.slice (some ⟨b9, 0, none⟩) (k + 1) c9)).heap.size) := by
          show _ ≤ _
          have h0 := HZ.out
          have h1 := hgrow9.size
          have h2 := D9.size
          simp only [World.size_setCell]
          omega
        clear hown9 hgrow9 hat9 hne9 D9 HG9 q9 z9 p2 p3 HK HR HG HO HT HB HST HV hi0 hz0 hz1 hz2 HK9 HB9 HALL HSW
        go_wp2_with fail
        go_roundw
        case rel => exact ⟨k + 1, _, _, by omega, by omega, by go_num, HK10, HR10, HG10, HO10, HT10, HZ10, HB10⟩
        case measure => simp [intOf]; omega
    · have HU : Hid (IsN (wr.setRow (g + 1) #[x]) (.agg #[x]) (fewN N)) := by
        have h := HT.out
        rw [few_end hk8 (by rw [HN.out]; omega)] at h
        refine (h.isS (own_kept HO.out (setRow_grown wr (g + 1) #[x]) (by omega)) ?_).mk
        exact below_setRow (by rw [HGG.out]; exact HB.out) (by rw [HGG.out]; omega) _
      have HRR := HR.out
      have HGL := HG.out
      have q0 := HK.out.cell 0 rfl
      rcases (by omega : k = n ∨ (k < n ∧ k = 8)) with rfl | ⟨hlt, rfl⟩
      · have hki : ¬ (k : Int) < (k : Int) := by omega
        go_wp2_with (first | (refine wpList_load_row rfl 24 (.tmp 3) rfl (g + 2) rfl 24 #[x] (0, 0) _ HGL Tryd.underlying24 rfl rfl ?_) | (refine wpList_store_row rfl 24 (.tmp 2) (.tmp 35) rfl (g + 1) #[x] rfl rfl 24 #[.slice none 0 0] HRR rfl rfl (by obtain ⟨A9, c9, h9, _⟩ := HU.out.slice; injection h9 with h9; simp at h9; subst h9; simp [Value.oneCell']) ?_))
        (try simp only [Exit.inBlock, Exit.then])
        exact bodyPost_ret (results_cell_row rfl _ _ (g + 1) 24 #[x] (0, 0) _ rfl (setRow_heap _ _ _ _ _ _ HRR) Tryd.underlying24 rfl rfl) rfl ⟨_, rfl, HU.out, below_setRow (by rw [HGG.out]; exact HB.out) (by rw [HGG.out]; omega) _⟩
      · have hki : ((8 : Nat) : Int) < (n : Int) := by omega
        have hki2 : (8 : Int) < (n : Int) := by omega
        have hk8b : ¬ ((8 : Nat) : Int) < 8 := by omega
        go_wp2_with (first | (refine wpList_load_row rfl 24 (.tmp 3) rfl (g + 2) rfl 24 #[x] (0, 0) _ HGL Tryd.underlying24 rfl rfl ?_) | (refine wpList_store_row rfl 24 (.tmp 2) (.tmp 35) rfl (g + 1) #[x] rfl rfl 24 #[.slice none 0 0] HRR rfl rfl (by obtain ⟨A9, c9, h9, _⟩ := HU.out.slice; injection h9 with h9; simp at h9; subst h9; simp [Value.oneCell']) ?_))
        (try simp only [Exit.inBlock, Exit.then])
        exact bodyPost_ret (results_cell_row rfl _ _ (g + 1) 24 #[x] (0, 0) _ rfl (setRow_heap _ _ _ _ _ _ HRR) Tryd.underlying24 rfl rfl) rfl ⟨_, rfl, HU.out, below_setRow (by rw [HGG.out]; exact HB.out) (by rw [HGG.out]; omega) _⟩
end Go.Proofs.YtohggpaffmcfoaaDoor
