/- The helper of the laws of package theseuslaw09: shown. -/
import Derived.Test.YtpfpkghihpcbkaaNetLp
import Derived.Test.YtpfpkghihpcbkaaNetM
import Derived.Test.YtpfpkghihpcbkaaRef09r
import Derived.Test.YtpfpkghihpcbkaaBlk
import Derived.Test.YtpfpkghihpcbkaaRulM
namespace Go.Proofs.Ytpfpkghihpcbkaa
open Go.RowKit
set_option linter.unusedVariables false
set_option linter.unusedSimpArgs false

theorem isr_one {w : World} {g : Nat} {t : TypeId} {r : Rl} (h : Blk g #[.int .u32 (r.at_ : Int), .int .i64 r.len, .int .i64 r.act, .int .i64 r.nxt] t w) : IsR w (.slice (some ⟨g, 0, none⟩) 1 1) [r] := by
  refine ⟨some ⟨g, 0, none⟩, 1, 1, rfl, Nat.le_refl _, by unfold maxLen; omega, rfl, fun _ => ⟨_, rfl, fun j u hu => ?_⟩⟩
  rw [add_plain, Nat.zero_add, Joins.cell_of_block h j, ← hu]
  simp [rcells, rcell]
theorem two_unbox {w w1 : World} {o p q r : Obj} (h : Below ((((w.alloc o).alloc p).alloc q).alloc r).heap.size ((((w.alloc o).alloc p).alloc q).alloc r) w1) : Below w.heap.size w w1 := unbox (unbox (unbox (unbox h) |>.mono (Nat.le_refl _)) |>.mono (Nat.le_refl _))
def netEx : Nt := [[⟨0, 0, 1, 2⟩], [⟨0, 0, 1, 1⟩], [⟨0, 0, 1, 1⟩]]
theorem loop_example : lpN netEx 7 = some [1] := by decide +kernel
theorem netEx_wf : WfN netEx := by
  intro l hl r hr
  simp [netEx] at hl
  rcases hl with rfl | rfl <;> (simp at hr; subst hr; decide)
set_option maxHeartbeats 1000000 in
theorem shown9 (w : World) : Calls Try.prog 10 #[] w fun e w' => e = .returned (.bool true) ∧ Below w.heap.size w w' := by
  obtain ⟨g, hg⟩ : ∃ g, w.heap.size = g := ⟨_, rfl⟩
  have HGG := Lib.hid hg
  obtain ⟨w4, hw4⟩ : ∃ W, (((w.alloc (.cells #[.int .u32 0, .int .i64 0, .int .i64 1, .int .i64 2] 46)).alloc (.cells #[.int .u32 0, .int .i64 0, .int .i64 1, .int .i64 1] 46)).alloc (.cells #[.int .u32 0, .int .i64 0, .int .i64 1, .int .i64 1] 46)).alloc (.cells #[.slice (some ⟨g, 0, none⟩) 1 1, .slice (some ⟨g + 1, 0, none⟩) 1 1, .slice (some ⟨g + 1 + 1, 0, none⟩) 1 1] 42) = W := ⟨_, rfl⟩
  have hB : Below w.heap.size w w4 := by
    subst hw4
    exact ((((Below.refl w.heap.size w).alloc (Nat.le_refl _) _).alloc (by simp only [World.size_alloc]; omega) _).alloc (by simp only [World.size_alloc]; omega) _).alloc (by simp only [World.size_alloc]; omega) _
  have b0 : Blk g #[.int .u32 0, .int .i64 0, .int .i64 1, .int .i64 2] 46 w4 := by
    subst hw4 hg
    exact (((Blk.new w _ _).bel ((Below.refl _ _).alloc (Nat.le_refl _) _)).bel ((Below.refl _ _).alloc (Nat.le_refl _) _)).bel ((Below.refl _ _).alloc (Nat.le_refl _) _)
  have b1 : Blk (g + 1) #[.int .u32 0, .int .i64 0, .int .i64 1, .int .i64 1] 46 w4 := by
    subst hw4 hg
    have h := Blk.new (w.alloc (.cells #[.int .u32 0, .int .i64 0, .int .i64 1, .int .i64 2] 46)) #[.int .u32 0, .int .i64 0, .int .i64 1, .int .i64 1] 46
    rw [World.size_alloc] at h
    exact (h.bel ((Below.refl _ _).alloc (Nat.le_refl _) _)).bel ((Below.refl _ _).alloc (Nat.le_refl _) _)
  have b2 : Blk (g + 1 + 1) #[.int .u32 0, .int .i64 0, .int .i64 1, .int .i64 1] 46 w4 := by
    subst hw4 hg
    have h := Blk.new ((w.alloc (.cells #[.int .u32 0, .int .i64 0, .int .i64 1, .int .i64 2] 46)).alloc (.cells #[.int .u32 0, .int .i64 0, .int .i64 1, .int .i64 1] 46)) #[.int .u32 0, .int .i64 0, .int .i64 1, .int .i64 1] 46
    rw [World.size_alloc, World.size_alloc] at h
    exact h.bel ((Below.refl _ _).alloc (Nat.le_refl _) _)
  have hO : Has w4 (some ⟨g + 1 + 1 + 1, 0, none⟩) [.slice (some ⟨g, 0, none⟩) 1 1, .slice (some ⟨g + 1, 0, none⟩) 1 1, .slice (some ⟨g + 1 + 1, 0, none⟩) 1 1] := by
    subst hw4
    have h := Has.new (((w.alloc (.cells #[.int .u32 0, .int .i64 0, .int .i64 1, .int .i64 2] 46)).alloc (.cells #[.int .u32 0, .int .i64 0, .int .i64 1, .int .i64 1] 46)).alloc (.cells #[.int .u32 0, .int .i64 0, .int .i64 1, .int .i64 1] 46)) [.slice (some ⟨g, 0, none⟩) 1 1, .slice (some ⟨g + 1, 0, none⟩) 1 1, .slice (some ⟨g + 1 + 1, 0, none⟩) 1 1] 42 (0, 0)
    rw [World.size_alloc, World.size_alloc, World.size_alloc, hg] at h
    exact h
  have hN : IsN w4 (.agg #[.slice (some ⟨g + 1 + 1 + 1, 0, none⟩) 3 3]) netEx := by
    refine ⟨_, rfl, _, 3, 3, _, rfl, Nat.le_refl _, by unfold maxLen; omega, rfl, rfl, hO, fun i h1 h2 => ?_⟩
    match i, h1, h2 with
    | 0, _, _ => exact isr_one (r := ⟨0, 0, 1, 2⟩) b0
    | 1, _, _ => exact isr_one (r := ⟨0, 0, 1, 1⟩) b1
    | 2, _, _ => exact isr_one (r := ⟨0, 0, 1, 1⟩) b2
  have c := nloop_any _ netEx 7 w4 hN (by decide) netEx_wf (by decide)
  rw [loop_example] at c
  have C := Lib.hid c
  have HB4 := Lib.hid hB
  clear c hN hO b0 b1 b2 hB
  go_enter Try.func10, Try.ntmps10
  go_wp2_with fail
  clear hw4 hg
  refine C.out.mono ?_
  rintro e1 w5 ⟨u, rfl, hu, hb⟩
  have HB5 := Lib.hid (HB4.out.trans (hb.mono HB4.out.size))
  have HU := Lib.hid hu
  clear hb hu C HB4
  go_wp2_with fail
  refine (rrow_any u (.slice (some ⟨w5.heap.size, 0, none⟩) 1 1) [1] [1] _ (HU.out.bel ((Below.refl _ _).alloc (Nat.le_refl _) _)) ⟨_, _, _, rfl, Nat.le_refl _, by unfold maxLen; omega, rfl, Has.new w5 (ints [1]) _ (0, 0)⟩).mono ?_
  rintro e2 w6 ⟨rfl, hb⟩
  have HB6 := Lib.hid (HB5.out.trans ((unbox hb).mono HB5.out.size))
  clear hb
  go_wp2_with fail
  go_ret
  exact ⟨rfl, HB6.out⟩
end Go.Proofs.Ytpfpkghihpcbkaa
