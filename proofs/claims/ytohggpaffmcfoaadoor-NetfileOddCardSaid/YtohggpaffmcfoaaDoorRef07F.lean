/- Contract of package theseusref07: Fit: a rule that may be. -/
import Derived.Test.YtohggpaffmcfoaaDoorRef07
import Derived.Test.YtohggpaffmcfoaaDoorRcs
import Derived.Deep.DeepCutAuto
import Derived.Laws.CopyOwn
namespace Go.Proofs.YtohggpaffmcfoaaDoor
open Go.RowKit
set_option linter.unusedVariables false
set_option maxRecDepth 100000
set_option linter.unusedSimpArgs false

theorem tmod_bd (l m : Int) (hm : 0 < m) : -m < l.tmod m ∧ l.tmod m < m := by
  rcases Int.le_total 0 l with h | h
  · rw [Int.tmod_eq_emod_of_nonneg h]
    have h1 := Int.emod_nonneg l (show m ≠ 0 by omega)
    have h2 := Int.emod_lt_of_pos l hm
    omega
  · have e : l.tmod m = -((-l).tmod m) := by rw [Int.neg_tmod, Int.neg_neg]
    rw [e, Int.tmod_eq_emod_of_nonneg (by omega)]
    have h1 := Int.emod_nonneg (-l) (show m ≠ 0 by omega)
    have h2 := Int.emod_lt_of_pos (-l) hm
    omega
/-- a number made one from 0 to below m -/
theorem fit_num (l m : Int) (hm : 0 < m) (hm2 : m ≤ 1000) : ∃ (p : Int) (q k : Nat), l.tmod m = p ∧ p + m = (q : Int) ∧ (q : Int).tmod m = (k : Int) ∧ (k : Int) < m ∧ -1000 ≤ p ∧ p ≤ 1000 ∧ (q : Int) ≤ 2000 := by
  obtain ⟨h1, h2⟩ := tmod_bd l m hm
  obtain ⟨h3, h4⟩ := tmod_bd (l.tmod m + m) m hm
  have h5 : 0 ≤ (l.tmod m + m).tmod m := by rw [Int.tmod_eq_emod_of_nonneg (by omega)]; exact Int.emod_nonneg _ (by omega)
  obtain ⟨q, hq⟩ := Int.eq_ofNat_of_zero_le (show 0 ≤ l.tmod m + m by omega)
  rw [hq] at h4 h5
  obtain ⟨k, hk⟩ := Int.eq_ofNat_of_zero_le h5
  exact ⟨_, q, k, rfl, hq, hk, by omega, by omega, by omega, by omega⟩
set_option maxHeartbeats 2000000 in
theorem fit_walk (a : Nat) (l c n : Int) (m : Nat) (w : World) (ha : (a : Int) ≤ 4294967295) (hm0 : 1 ≤ (m : Int)) (hm1 : (m : Int) ≤ 512)
    (p1 p2 p3 : Int) (q1 q2 q3 k act nx : Nat) (e1 : l.tmod 33 = p1) (f1 : p1 + 33 = (q1 : Int)) (g1 : (q1 : Int).tmod 33 = (k : Int)) (b1 : (k : Int) ≤ 32) (r1 : (q1 : Int) ≤ 2000)
    (e2 : c.tmod 3 = p2) (f2 : p2 + 3 = (q2 : Int)) (g2 : (q2 : Int).tmod 3 = (act : Int)) (b2 : (act : Int) ≤ 2) (r2 : (q2 : Int) ≤ 2000) (s2 : -1000 ≤ p2) (t2 : p2 ≤ 1000)
    (e3 : n.tmod (m : Int) = p3) (f3 : p3 + (m : Int) = (q3 : Int)) (g3 : (q3 : Int).tmod (m : Int) = (nx : Int)) (b3 : (nx : Int) < (m : Int)) (r3 : (q3 : Int) ≤ 2000) (s3 : -1000 ≤ p3) (t3 : p3 ≤ 1000) :
    Calls Tryd.prog 61 #[.agg #[.int .u32 a, .int .i64 l, .int .i64 c, .int .i64 n], .int .i64 m] w fun e w' => e = .returned (.agg (rcs (loN a k : Nat) k (if act = 0 then 3 else act : Nat) (if act = 1 then nx else 0 : Nat))) ∧ Below w.heap.size w w' := by
  have hL := lo_le a k
  have hand := u32_and_nat a (mskN k) (by omega) (by have := msk_le k; omega)
  rw [and_msk a k (by omega) (by omega)] at hand
  have CM := Lib.hid (fun w => rmask_any k w)
  rw [cl_nat k (by omega)] at CM
  generalize loN a k = A at *
  generalize mskN k = M at *
  have hA : (A : Int) ≤ 4294967295 := by omega
  have i1 : wrap64 (p1 + 33) = (q1 : Int) := by rw [f1]; exact IntWalk.wrap64_in _ (by omega)
  have i2 : IntKind.i64.wrap (p2 + 3) = (q2 : Int) := by rw [f2, IntKind.wrap_i64]; omega
  have i3 : IntKind.i64.wrap p2 = p2 := by rw [IntKind.wrap_i64]; omega
  have i4 : IntKind.i64.wrap (act : Int) = (act : Int) := by rw [IntKind.wrap_i64]; omega
  have i5 : wrap64 (p3 + (m : Int)) = (q3 : Int) := by rw [f3]; exact IntWalk.wrap64_in _ (by omega)
  have i6 : wrap64 p3 = p3 := IntWalk.wrap64_in _ (by omega)
  have i7 : wrap64 (nx : Int) = (nx : Int) := IntWalk.wrap64_in _ (by omega)
  have i8 : ((m : Int) == 0) = false := by rw [beq_eq_false_iff_ne]; omega
  have i9 : (m : Int) ≠ 0 := by omega
  clear hL f1 f2
  go_enter Tryd.func61, Tryd.ntmps61
  go_upto_region 2 with fail
  obtain ⟨g, hg⟩ : ∃ g, w.heap.size = g := ⟨_, rfl⟩
  have h1 := heap_alloc2_old w (.cells #[.int .u32 (a : Int), .int .i64 l, .int .i64 c, .int .i64 n] 47) (.cells #[.int .u32 0, .int .i64 0, .int .i64 0, .int .i64 0] 47)
  have h2 := heap_alloc2_new w (.cells #[.int .u32 (a : Int), .int .i64 l, .int .i64 c, .int .i64 n] 47) (.cells #[.int .u32 0, .int .i64 0, .int .i64 0, .int .i64 0] 47)
  have h3 : Below w.heap.size w ((w.alloc (.cells #[.int .u32 (a : Int), .int .i64 l, .int .i64 c, .int .i64 n] 47)).alloc (.cells #[.int .u32 0, .int .i64 0, .int .i64 0, .int .i64 0] 47)) := ((Below.refl w.heap.size w).alloc (Nat.le_refl _) _).alloc (by simp only [World.size_alloc]; omega) _
  obtain ⟨w1, hw1⟩ : ∃ w1, (w.alloc (.cells #[.int .u32 (a : Int), .int .i64 l, .int .i64 c, .int .i64 n] 47)).alloc (.cells #[.int .u32 0, .int .i64 0, .int .i64 0, .int .i64 0] 47) = w1 := ⟨_, rfl⟩
  rw [hw1] at h1 h2 h3
  rw [hw1]
  simp only [hg] at h1 h2 h3 ⊢
  have HGG := Lib.hid hg
  have hz : g + 1 < w1.heap.size := (Array.getElem?_eq_some_iff.1 h2).1
  have c0 : w1.cell? ⟨g, 0, none⟩ = some (.int .u32 (a : Int)) := Joins.cell_of_block h1 0
  have c2 : w1.cell? ⟨g, 2, none⟩ = some (.int .i64 c) := Joins.cell_of_block h1 2
  have HB := Lib.hid h3
  have H1 := Lib.hid h1
  have H2 := Lib.hid h2
  have HZ := Lib.hid hz
  have hz0 : g < w1.heap.size := by omega
  clear hw1 hg h1 h2 h3 hz
  go_cut [6] (fun p wx => ∃ G : Nat, p = .pointer (some ⟨G, 0, none⟩) ∧ Hid (G ≠ g + 1 ∧ g ≤ G) ∧ Hid (wx.heap[G]? = some (.cells (rcs A k act 0) 47 (0, 0))) ∧ Hid (wx.heap[g]? = some (.cells (rcs a l c n) 47 (0, 0))) ∧ Hid (wx.heap[g + 1]? = some (.cells (rcs 0 0 0 0) 47 (0, 0))) ∧ Hid (Below g w wx))
  case first =>
    go_region_with (go_simp; go_at_call 81; refine (CM.out _).mono ?_; rintro e wq ⟨rfl, rfl⟩)
    all_goals
      go_wp2_with fail
      go_meet
      exact ⟨w1.heap.size, rfl, ⟨by have := HZ.out; omega, by omega⟩, heap_alloc_new w1 _, (heap_alloc_old w1 _ hz0).trans H1.out, (heap_alloc_old w1 _ HZ.out).trans H2.out, (HB.out.alloc (by omega) _).drew⟩
  case rest =>
    obtain ⟨G, rfl, HN, HGr, Hg0, Hg1, HBc⟩ := hcut
    generalize wc = w2 at *
    clear H1 H2 HB HZ hz0 c0 c2 CM
    obtain ⟨hN1, hN2⟩ := HN.out
    have d2 : w2.cell? ⟨G, 2, none⟩ = some (.int .i64 (act : Int)) := Joins.cell_of_block HGr.out 2
    have d3 : w2.cell? ⟨G, 3, none⟩ = some (.int .i64 0) := Joins.cell_of_block HGr.out 3
    have z2 : w2.frozen? ⟨G, 2, none⟩ = false := Joins.unfrozen_of_block HGr.out 2
    have z3 : w2.frozen? ⟨G, 3, none⟩ = false := Joins.unfrozen_of_block HGr.out 3
    have cn : w2.cell? ⟨g, 3, none⟩ = some (.int .i64 n) := Joins.cell_of_block Hg0.out 3
    rcases (by omega : act = 0 ∨ act = 1 ∨ act = 2) with rfl | rfl | rfl
    · go_upto_region 5 with fail
      have HR : (w2.setCell ⟨G, 2, none⟩ (.int .i64 3)).heap[G]? = some (.cells (rcs A k 3 0) 47 (0, 0)) := by rw [Joins.block_setCell HGr.out]; rfl
      have HO : (w2.setCell ⟨G, 2, none⟩ (.int .i64 3)).heap[g + 1]? = some (.cells (rcs 0 0 0 0) 47 (0, 0)) := (Below.heap_setCell w2 ⟨G, 2, none⟩ (.int .i64 3) (g + 1) (fun e => hN1 e.symm)).trans Hg1.out
      have HBx : Hid (Below g w (w2.setCell ⟨G, 2, none⟩ (.int .i64 3))) := HBc.out.setCell (p := ⟨G, 2, none⟩) hN2 _
      clear HGr Hg0 Hg1 HBc d2 d3 z2 z3 cn HN hN1 hN2
      generalize w2.setCell ⟨G, 2, none⟩ (.int .i64 3) = w3 at *
      have d2 : w3.cell? ⟨G, 2, none⟩ = some (.int .i64 3) := Joins.cell_of_block HR 2
      go_wp2_with (first | (refine wpList_load_row rfl 47 (.tmp 6) rfl G rfl 47 (rcs A k 3 0) (0, 0) _ HR Tryd.underlying47 rfl rfl ?_) | (refine wpList_store_row rfl 47 (.tmp 4) (.tmp 40) rfl (g + 1) (rcs A k 3 0) rfl rfl 47 (rcs 0 0 0 0) HO rfl rfl (by simp [rcs, Value.oneCell']) ?_))
      (try simp only [Exit.inBlock, Exit.then])
      exact bodyPost_ret (results_cell_row rfl _ _ (g + 1) 47 (rcs A k 3 0) (0, 0) _ rfl (setRow_heap _ _ _ _ _ _ HO) Tryd.underlying47 rfl rfl) rfl ⟨rfl, below_setRow (by rw [HGG.out]; exact HBx.out) (by rw [HGG.out]; omega) _⟩
    · go_upto_region 7 with fail
      have HR : (w2.setCell ⟨G, 3, none⟩ (.int .i64 (nx : Int))).heap[G]? = some (.cells (rcs A k 1 nx) 47 (0, 0)) := by rw [Joins.block_setCell HGr.out]; rfl
      have HO : (w2.setCell ⟨G, 3, none⟩ (.int .i64 (nx : Int))).heap[g + 1]? = some (.cells (rcs 0 0 0 0) 47 (0, 0)) := (Below.heap_setCell w2 ⟨G, 3, none⟩ (.int .i64 (nx : Int)) (g + 1) (fun e => hN1 e.symm)).trans Hg1.out
      have HBx : Hid (Below g w (w2.setCell ⟨G, 3, none⟩ (.int .i64 (nx : Int)))) := HBc.out.setCell (p := ⟨G, 3, none⟩) hN2 _
      clear HGr Hg0 Hg1 HBc d2 d3 z2 z3 cn HN hN1 hN2
      generalize w2.setCell ⟨G, 3, none⟩ (.int .i64 (nx : Int)) = w3 at *
      go_wp2_with (first | (refine wpList_load_row rfl 47 (.tmp 6) rfl G rfl 47 (rcs A k 1 nx) (0, 0) _ HR Tryd.underlying47 rfl rfl ?_) | (refine wpList_store_row rfl 47 (.tmp 4) (.tmp 40) rfl (g + 1) (rcs A k 1 nx) rfl rfl 47 (rcs 0 0 0 0) HO rfl rfl (by simp [rcs, Value.oneCell']) ?_))
      (try simp only [Exit.inBlock, Exit.then])
      exact bodyPost_ret (results_cell_row rfl _ _ (g + 1) 47 (rcs A k 1 nx) (0, 0) _ rfl (setRow_heap _ _ _ _ _ _ HO) Tryd.underlying47 rfl rfl) rfl ⟨rfl, below_setRow (by rw [HGG.out]; exact HBx.out) (by rw [HGG.out]; omega) _⟩
    · have HR := HGr.out
      have HO := Hg1.out
      have HBx := HBc
      go_wp2_with (first | (refine wpList_load_row rfl 47 (.tmp 6) rfl G rfl 47 (rcs A k 2 0) (0, 0) _ HR Tryd.underlying47 rfl rfl ?_) | (refine wpList_store_row rfl 47 (.tmp 4) (.tmp 40) rfl (g + 1) (rcs A k 2 0) rfl rfl 47 (rcs 0 0 0 0) HO rfl rfl (by simp [rcs, Value.oneCell']) ?_))
      (try simp only [Exit.inBlock, Exit.then])
      exact bodyPost_ret (results_cell_row rfl _ _ (g + 1) 47 (rcs A k 2 0) (0, 0) _ rfl (setRow_heap _ _ _ _ _ _ HO) Tryd.underlying47 rfl rfl) rfl ⟨rfl, below_setRow (by rw [HGG.out]; exact HBx.out) (by rw [HGG.out]; omega) _⟩
  
/-- a rule that may be, of so many nodes: letters -/
theorem fit_any (a : Nat) (l c n : Int) (m : Nat) (ha : (a : Int) ≤ 4294967295) (hm0 : 1 ≤ (m : Int)) (hm1 : (m : Int) ≤ 512) :
    ∃ A k act nx : Nat, (A : Int) ≤ 4294967295 ∧ Hid (loN A k = A) ∧ (k : Int) ≤ 32 ∧ ((act = 1 ∧ (nx : Int) < (m : Int)) ∨ ((act = 2 ∨ act = 3) ∧ nx = 0)) ∧
      Hid (∀ w, Calls Tryd.prog 61 #[.agg #[.int .u32 a, .int .i64 l, .int .i64 c, .int .i64 n], .int .i64 m] w fun e w' => e = .returned (.agg #[.int .u32 A, .int .i64 k, .int .i64 act, .int .i64 nx]) ∧ Below w.heap.size w w') := by
  obtain ⟨p1, q1, k, e1, f1, g1, b1, s1, t1, r1⟩ := fit_num l 33 (by omega) (by omega)
  obtain ⟨p2, q2, act, e2, f2, g2, b2, s2, t2, r2⟩ := fit_num c 3 (by omega) (by omega)
  obtain ⟨p3, q3, nx, e3, f3, g3, b3, s3, t3, r3⟩ := fit_num n m (by omega) (by omega)
  refine ⟨loN a k, k, if act = 0 then 3 else act, if act = 1 then nx else 0, by have := lo_le a k; omega, lo_lo a k, by omega, ?_, fun w => fit_walk a l c n m w ha hm0 hm1 p1 p2 p3 q1 q2 q3 k act nx e1 f1 g1 (by omega) r1 e2 f2 g2 (by omega) r2 s2 t2 e3 f3 g3 b3 r3 s3 t3⟩
  rcases (by omega : act = 0 ∨ act = 1 ∨ act = 2) with rfl | rfl | rfl
  · right; simp
  · left; simpa using b3
  · right; simp

end Go.Proofs.YtohggpaffmcfoaaDoor
