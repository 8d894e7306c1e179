/- The helpers of the laws of package theseuslaw10: fewOf, shown. -/
import Derived.Test.YtohggpaffmcfoaaDoorMath
import Derived.Test.YtohggpaffmcfoaaDoorNetKit
import Derived.Test.YtohggpaffmcfoaaDoorNf
import Derived.Test.YtohggpaffmcfoaaDoorNetOwn
import Derived.Test.YtohggpaffmcfoaaDoorRef09f
import Derived.Test.YtohggpaffmcfoaaDoorMid
import Derived.Test.YtohggpaffmcfoaaDoorBlk
import Derived.Test.YtohggpaffmcfoaaDoorRulM
import Derived.Deep.DeepCutAuto
import Derived.Deep.RegionHeld3
import Derived.Lib.MinMax
namespace Go.Proofs.YtohggpaffmcfoaaDoor
open Go.RowKit
set_option linter.unusedVariables false
set_option maxRecDepth 100000
set_option linter.unusedSimpArgs false

theorem fewOf10 (A : Option Addr) (n c : Nat) (w : World) (hn : n ≤ c) (hc : c ≤ maxLen) :
    Calls Tryd.prog 14 #[.slice A n c] w fun e w' => e = .returned (.slice A (min n 400) c) ∧ w = w' := by
  unfold maxLen at hc
  have hmn : (min (n : Int) 400).toNat = min n 400 := by omega
  go_enter Tryd.func14, Tryd.ntmps14
  go_wp2
  go_ret
  exact ⟨by rw [← hmn]; rfl, rfl⟩
/-- of bytes all that a walk needs: those that fewOf leaves -/
theorem few_pack10 (A : Option Addr) (n c : Nat) (l : List UInt8) (w : World) (h : InB w A n c l) :
    ∃ (m : Nat) (L : List UInt8), m ≤ 400 ∧ L.length = m ∧ m ≤ c ∧ c ≤ maxLen ∧ Hid (IsB w (.slice A m c) L) ∧ Hid (∀ W, Calls Tryd.prog 14 #[.slice A n c] W fun e w' => e = .returned (.slice A m c) ∧ W = w') := by
  obtain ⟨hlen, hcap, hmax, hhas⟩ := h
  have h1 : (l.take 400).length = min n 400 := by rw [List.length_take, hlen]; omega
  refine ⟨min n 400, l.take 400, by omega, h1, by omega, hmax, ?_, fun W => fewOf10 A n c W hcap hmax⟩
  refine ⟨_, _, _, rfl, by omega, hmax, h1, ?_⟩
  rw [vals_take]
  exact hhas.take 400
theorem str_in {w : World} {v : Value} {bs : List UInt8} (h : IsB w v bs) : (convert 25 9 v).run Tryd.prog w = .ok (.string ⟨bs.toArray⟩) w :=
  run_string_isb0 (P := Tryd.prog) w 25 5 9 Tryd.underlying25 Tryd.underlying5 Tryd.underlying9 h
theorem str_at {w : World} {v : Value} {bs : List UInt8} (h : IsB w v bs) : ∀ k, (convert 25 9 v).run Tryd.prog (w.drewN k) = .ok (.string ⟨bs.toArray⟩) (w.drewN k) :=
  run_string_isb (P := Tryd.prog) w 25 5 9 Tryd.underlying25 Tryd.underlying5 Tryd.underlying9 h
theorem wpAnyH_mono {P : Program} {ops : Array Oper} {Q : Exit → Act → World → Prop} {md : Region.Mode} {S S' : World → Prop} (hSS : ∀ w, S' w → S w) :
    ∀ (fuel : Nat) (listed : Array Bool) (a : Act) (w : World), wpAnyH P md ops Q S' fuel listed a w → wpAnyH P md ops Q S fuel listed a w
  | 0, _, _, _, h => h
  | fuel + 1, _, _, _, h => ⟨h.1, fun i hi => wpOp_mono (fun a' w' h' => ⟨hSS _ h'.1, wpAnyH_mono hSS fuel _ a' w' h'.2⟩) (h.2 i hi)⟩
/-- a frame's bytes as bytes -/
theorem fput_isb {m : Nat} {l : List UInt8} {v : Value} {w w' : World} (h : w'.ownsRow w.heap.size 5 1 v (l.length + 8) (vals (frameN m l))) : IsB w' v (frameN m l) := IsB.of_own h
def exN : Nt := [[]]
def exF : List UInt8 := frameN magicN [1, 84, 1, 0]
theorem ex_put : putNf exN = (exF, 0) := by decide +kernel
theorem ex_take : takeNf exF = (exN, 0) := by
  have h := takeNf_put (N := exN) (by decide) (by intro l hl; simp [exN] at hl; subst hl; simp)
  rw [ex_put] at h
  exact h
theorem ex_len : exF.length = 12 := by decide +kernel
theorem exN_is {w : World} {g : Nat} {A : Option Addr} (h : Has w (some ⟨g, 0, none⟩) [.slice none 0 0]) : IsN w (.agg #[.slice (some ⟨g, 0, none⟩) 1 1]) exN := by
  refine ⟨_, rfl, _, 1, 1, _, rfl, Nat.le_refl _, by unfold maxLen; omega, rfl, rfl, h, fun i h1 h2 => ?_⟩
  match i, h1, h2 with
  | 0, _, _ => exact ⟨none, 0, 0, rfl, Nat.le_refl _, Nat.zero_le _, rfl, Has.nil_ _ _⟩
set_option maxHeartbeats 1000000 in
theorem shown10 (w : World) (ht : Hid (Tab w)) : Calls Tryd.prog 10 #[] w fun e w' => e = .returned (.bool true) ∧ Below w.heap.size w w' := by
  have HTW := ht
  have hmk : (Instr.makeSlice 22 (.int .i64 1) (.int .i64 1)).run Tryd.prog w = .ok (.slice (some ⟨w.heap.size, 0, none⟩) 1 1) (w.alloc (.cells #[.slice none 0 0] 42)) := by kernel_rfl
  have HB1 : Hid (Below w.heap.size w (w.alloc (.cells #[.slice none 0 0] 42))) := (Below.refl _ _).alloc (Nat.le_refl _) _
  have c := nfput_any _ exN (w.alloc (.cells #[.slice none 0 0] 42)) (exN_is (A := none) (Has.new w [.slice none 0 0] 42 (0, 0))) (by decide) (by intro l hl; simp [exN] at hl; subst hl; simp) (ht.out.bel HB1.out)
  rw [ex_put] at c
  have C := Lib.hid c
  clear c
  obtain ⟨F, hF⟩ : ∃ F, exF = F := ⟨_, rfl⟩
  have hT := ex_take
  have hl := ex_len
  have hFr : frameN 1179206193 [1, 84, 1, 0] = F := hF
  rw [hF] at C hT hl
  have HT := Lib.hid hT
  have HFR := Lib.hid hFr
  have HL := Lib.hid hl
  clear hT hl hFr hF ht
  go_enter Tryd.func10, Tryd.ntmps10
  go_wp2_with fail
  refine C.out.mono ?_
  rintro e1 w2 ⟨u, rfl, hu, hb⟩
  have HB2 := Lib.hid (HB1.out.trans (hb.mono HB1.out.size))
  have HU := Lib.hid hu
  clear hu hb C HB1
  go_wp2_with fail
  refine (fput_any 1179206193 (.slice (some ⟨w2.heap.size, 0, none⟩) 4 4) [1, 84, 1, 0] _ (by decide) (IsB.new w2 [1, 84, 1, 0] 5 (0, 0) 4 rfl (by decide)) (by decide) (HTW.out.bel (HB2.out.alloc HB2.out.size _))).mono ?_
  rintro e2 w3 ⟨p, rfl, hp, hb⟩
  have hp2 := fput_isb hp
  rw [HFR.out] at hp2
  have HB3 := Lib.hid (HB2.out.trans ((unbox hb).mono HB2.out.size))
  have HU3 := Lib.hid (HU.out.bel (unbox hb))
  clear hb hp HU
  have c2 := nftake_any p F w3 hp2 (by rw [HL.out]; decide) (HTW.out.bel HB3.out)
  rw [HT.out] at c2
  clear hp2
  go_wp2_with fail
  refine c2.mono ?_
  rintro e3 w4 ⟨x, rfl, hx, hb⟩
  have HB4 := Lib.hid (HB3.out.trans (hb.mono HB3.out.size))
  have HU4 := Lib.hid (HU3.out.bel hb)
  obtain ⟨A, c, rfl, hc, hm, hS⟩ := hx.slice
  clear hb HU3 c2 hx hS
  obtain ⟨g, hg⟩ : ∃ g, w4.heap.size = g := ⟨_, rfl⟩
  have HW : Hid (Blk g #[.slice A exN.length c] 24 (w4.alloc (.cells #[.slice A exN.length c] 24))) := by
    subst hg
    exact Blk.new w4 _ _
  have HB5 := Lib.hid (HB4.out.alloc HB4.out.size (.cells #[.slice A exN.length c] 24))
  have HU5 : Hid (IsB (w4.alloc (.cells #[.slice A exN.length c] 24)) u F) := HU4.out.bel ((Below.refl _ _).alloc (Nat.le_refl _) _)
  go_wp2_with fail
  try rw [hg]
  generalize w4.alloc (.cells #[.slice A exN.length c] 24) = w5 at *
  clear HU4 hg HB4
  obtain ⟨A2, n2, c2, rfl, k1, k2, k3, k4⟩ := HU5.out
  obtain rfl : n2 = 12 := by rw [← k3]; exact HL.out
  clear k1 k2 k3 k4
  have HD : Hid (Below w5.heap.size w5 w5.drew) := (Below.refl _ _).drew
  have HDA : Hid (Below w5.heap.size w5 (w5.drew.alloc (.cells (vals [1, 84, 1, 0]).toArray 5))) := HD.out.alloc HD.out.size _
  have HTA := HTW.out.bel (HB5.out.trans (HDA.out.mono HB5.out.size))
  have HS : Hid (∀ w', Below w5.heap.size w5 w' → (convert 25 9 (.slice A2 12 c2)).run Tryd.prog w' = .ok (.string ⟨F.toArray⟩) w' ∧ w'.cell? ⟨g, 0, none⟩ = some (.slice A exN.length c)) := fun w' h => ⟨str_in (HU5.out.bel h), (HW.out.bel h).cell 0 rfl⟩
  refine wp_region_held_drew (S := fun w' => (convert 25 9 (.slice A2 12 c2)).run Tryd.prog w' = .ok (.string ⟨F.toArray⟩) w' ∧ w'.cell? ⟨g, 0, none⟩ = some (.slice A exN.length c)) (by kernel_rfl) (HS.out _ HD.out) (fun hHeld => ?_)
  refine wpAnyH_take (i := 0) (oi := ({ dst := some 17, op := Op.move (Operand.tmp 1), type := 25, pos := "law.go:17", after := #[], guard := none } : Oper)) (v := ?_) rfl (by kernel_rfl) (by kernel_rfl) (by kernel_rfl) (fun _ _ _ h => h) (Or.inl ⟨by rfl, ?_⟩) (by assumption) ?_
  rotate_left 1
  · intro w hSw
    (try dsimp only at hSw)
    go_simp
    try with_reducible rfl
  try simp only [Act.put, List.setIfInBounds_toArray, List.set_cons_zero, List.set_cons_succ]
  refine wpAnyH_take (i := 1) (oi := ({ dst := some 18, op := Op.convert 25 9 (Operand.tmp 17), type := 9, pos := "law.go:17", after := #[{ on := 0, ground := Ground.data }], guard := none } : Oper)) (v := ?_) rfl (by kernel_rfl) (by kernel_rfl) (by kernel_rfl) (fun _ _ _ h => h) (Or.inl ⟨by rfl, ?_⟩) (by assumption) ?_
  rotate_left 1
  · intro w hSw
    (try dsimp only at hSw)
    go_simp
    try with_reducible rfl
  try simp only [Act.put, List.setIfInBounds_toArray, List.set_cons_zero, List.set_cons_succ]
  refine wpAnyH_ready (rs := [2]) (by kernel_rfl) (by simp) ?_
  refine AllReadyH.cons rfl (fun K hK => ?_) AllReadyH.nil
  go_simp
  refine hK.out _ _ (HS.out _ HDA.out) (fun hHeld => ?_)
  clear hK K
  try simp only [Act.put, List.setIfInBounds_toArray, List.set_cons_zero, List.set_cons_succ]
  refine wpAnyH_ready (rs := [3]) (by kernel_rfl) (by simp) ?_
  refine AllReadyH.cons rfl (fun K hK => ?_) AllReadyH.nil
  go_simp
  go_at_call 18
  refine (fput_any 1179206193 (.slice (some ⟨w5.drew.heap.size, 0, none⟩) 4 4) [1, 84, 1, 0] _ (by decide) (IsB.new w5.drew [1, 84, 1, 0] 5 (0, 0) 4 rfl (by decide)) (by decide) HTA).mono ?_
  rintro e w8 ⟨p8, rfl, hp8, hb8⟩
  have hv8 := fput_isb hp8
  rw [HFR.out] at hv8
  have HB8 := Lib.hid (HDA.out.trans (hb8.mono HDA.out.size))
  clear hp8 hb8
  refine hK.out _ _ (HS.out _ HB8.out) (fun hHeld => ?_)
  clear hK K
  try simp only [Act.put, List.setIfInBounds_toArray, List.set_cons_zero, List.set_cons_succ]
  have hHeld2 : (fun w' => (convert 25 9 p8).run Tryd.prog w' = .ok (.string ⟨F.toArray⟩) w' ∧ (convert 25 9 (.slice A2 12 c2)).run Tryd.prog w' = .ok (.string ⟨F.toArray⟩) w' ∧ w'.cell? ⟨g, 0, none⟩ = some (.slice A exN.length c)) w8 := ⟨str_in hv8, HS.out _ HB8.out⟩
  refine wpAnyH_mono (S' := fun w' => (convert 25 9 p8).run Tryd.prog w' = .ok (.string ⟨F.toArray⟩) w' ∧ (convert 25 9 (.slice A2 12 c2)).run Tryd.prog w' = .ok (.string ⟨F.toArray⟩) w' ∧ w'.cell? ⟨g, 0, none⟩ = some (.slice A exN.length c)) (fun w' h => h.2) _ _ _ _ ?_
  try clear hHeld
  refine wpAnyH_take (i := 4) (oi := ({ dst := some 21, op := Op.convert 25 9 (Operand.tmp 20), type := 9, pos := "law.go:17", after := #[{ on := 3, ground := Ground.data }], guard := none } : Oper)) (v := ?_) rfl (by kernel_rfl) (by kernel_rfl) (by kernel_rfl) (fun _ _ _ h => h) (Or.inl ⟨by rfl, ?_⟩) (by assumption) ?_
  rotate_left 1
  · intro w hSw
    (try dsimp only at hSw)
    go_simp
    try with_reducible rfl
  try simp only [Act.put, List.setIfInBounds_toArray, List.set_cons_zero, List.set_cons_succ]
  refine wpAnyH_take (i := 5) (oi := ({ dst := some 22, op := Op.binOp BinOp.eql 9 (Operand.tmp 18) (Operand.tmp 21) 9, type := 4, pos := "law.go:17", after := #[{ on := 1, ground := Ground.data }, { on := 4, ground := Ground.data }], guard := none } : Oper)) (v := ?_) rfl (by kernel_rfl) (by kernel_rfl) (by kernel_rfl) (fun _ _ _ h => h) (Or.inl ⟨by rfl, ?_⟩) (by assumption) ?_
  rotate_left 1
  · intro w hSw
    (try dsimp only at hSw)
    go_simp
    try with_reducible rfl
  try simp only [Act.put, List.setIfInBounds_toArray, List.set_cons_zero, List.set_cons_succ]
  refine wpAnyH_take (i := 6) (oi := ({ dst := some 23, op := Op.move (Operand.tmp 22), type := 4, pos := "law.go:17", after := #[{ on := 5, ground := Ground.data }, { on := 3, ground := Ground.chain }], guard := none } : Oper)) (v := ?_) rfl (by kernel_rfl) (by kernel_rfl) (by kernel_rfl) (fun _ _ _ h => h) (Or.inl ⟨by rfl, ?_⟩) (by assumption) ?_
  rotate_left 1
  · intro w hSw
    (try dsimp only at hSw)
    go_simp
    try with_reducible rfl
  try simp only [Act.put, List.setIfInBounds_toArray, List.set_cons_zero, List.set_cons_succ]
  refine wpAnyH_take (i := 7) (oi := ({ dst := some 24, op := Op.move (Operand.tmp 1), type := 25, pos := "law.go:17", after := #[{ on := 6, ground := Ground.guard }], guard := some (6, true) } : Oper)) (v := ?_) rfl (by kernel_rfl) (by kernel_rfl) (by kernel_rfl) (fun _ _ _ h => h) (Or.inl ⟨by rfl, ?_⟩) (by assumption) ?_
  rotate_left 1
  · intro w hSw
    (try dsimp only at hSw)
    go_simp
    try with_reducible rfl
  try simp only [Act.put, List.setIfInBounds_toArray, List.set_cons_zero, List.set_cons_succ]
  refine wpAnyH_take (i := 8) (oi := ({ dst := some 25, op := Op.call { callee := Callee.builtin Builtin.len, args := #[Operand.tmp 24], argTypes := #[25] }, type := 3, pos := "law.go:17", after := #[{ on := 7, ground := Ground.data }, { on := 6, ground := Ground.guard }], guard := some (6, true) } : Oper)) (v := ?_) rfl (by kernel_rfl) (by kernel_rfl) (by kernel_rfl) (fun _ _ _ h => h) (Or.inl ⟨by rfl, ?_⟩) (by assumption) ?_
  rotate_left 1
  · intro w hSw
    (try dsimp only at hSw)
    go_simp
    try with_reducible rfl
  try simp only [Act.put, List.setIfInBounds_toArray, List.set_cons_zero, List.set_cons_succ]
  refine wpAnyH_take (i := 9) (oi := ({ dst := some 26, op := Op.binOp BinOp.eql 3 (Operand.tmp 25) (Operand.const (Value.int IntKind.i64 12)) 3, type := 4, pos := "law.go:17", after := #[{ on := 8, ground := Ground.data }, { on := 6, ground := Ground.guard }], guard := some (6, true) } : Oper)) (v := ?_) rfl (by kernel_rfl) (by kernel_rfl) (by kernel_rfl) (fun _ _ _ h => h) (Or.inl ⟨by rfl, ?_⟩) (by assumption) ?_
  rotate_left 1
  · intro w hSw
    (try dsimp only at hSw)
    go_simp
    try with_reducible rfl
  try simp only [Act.put, List.setIfInBounds_toArray, List.set_cons_zero, List.set_cons_succ]
  refine wpAnyH_take (i := 10) (oi := ({ dst := some 27, op := Op.pick (Operand.tmp 23) (Operand.tmp 26) (Operand.const (Value.bool false)), type := 4, pos := "law.go:17", after := #[{ on := 6, ground := Ground.data }, { on := 9, ground := Ground.data }], guard := none } : Oper)) (v := ?_) rfl (by kernel_rfl) (by kernel_rfl) (by kernel_rfl) (fun _ _ _ h => h) (Or.inl ⟨by rfl, ?_⟩) (by assumption) ?_
  rotate_left 1
  · intro w hSw
    (try dsimp only at hSw)
    go_simp
    try with_reducible rfl
  try simp only [Act.put, List.setIfInBounds_toArray, List.set_cons_zero, List.set_cons_succ]
  refine wpAnyH_take (i := 11) (oi := ({ dst := some 28, op := Op.move (Operand.tmp 27), type := 4, pos := "law.go:17", after := #[{ on := 10, ground := Ground.data }, { on := 6, ground := Ground.chain }], guard := none } : Oper)) (v := ?_) rfl (by kernel_rfl) (by kernel_rfl) (by kernel_rfl) (fun _ _ _ h => h) (Or.inl ⟨by rfl, ?_⟩) (by assumption) ?_
  rotate_left 1
  · intro w hSw
    (try dsimp only at hSw)
    go_simp
    try with_reducible rfl
  try simp only [Act.put, List.setIfInBounds_toArray, List.set_cons_zero, List.set_cons_succ]
  refine wpAnyH_take (i := 12) (oi := ({ dst := some 29, op := Op.move (Operand.tmp 2), type := 27, pos := "law.go:17", after := #[{ on := 11, ground := Ground.guard }], guard := some (11, true) } : Oper)) (v := ?_) rfl (by kernel_rfl) (by kernel_rfl) (by kernel_rfl) (fun _ _ _ h => h) (Or.inl ⟨by rfl, ?_⟩) (by assumption) ?_
  rotate_left 1
  · intro w hSw
    (try dsimp only at hSw)
    go_simp
    try with_reducible rfl
  try simp only [Act.put, List.setIfInBounds_toArray, List.set_cons_zero, List.set_cons_succ]
  refine wpAnyH_take (i := 13) (oi := ({ dst := some 30, op := Op.binOp BinOp.eql 27 (Operand.tmp 29) (Operand.const (Value.int IntKind.i64 0)) 27, type := 4, pos := "law.go:17", after := #[{ on := 12, ground := Ground.data }, { on := 11, ground := Ground.guard }], guard := some (11, true) } : Oper)) (v := ?_) rfl (by kernel_rfl) (by kernel_rfl) (by kernel_rfl) (fun _ _ _ h => h) (Or.inl ⟨by rfl, ?_⟩) (by assumption) ?_
  rotate_left 1
  · intro w hSw
    (try dsimp only at hSw)
    go_simp
    try with_reducible rfl
  try simp only [Act.put, List.setIfInBounds_toArray, List.set_cons_zero, List.set_cons_succ]
  refine wpAnyH_take (i := 14) (oi := ({ dst := some 31, op := Op.pick (Operand.tmp 28) (Operand.tmp 30) (Operand.const (Value.bool false)), type := 4, pos := "law.go:17", after := #[{ on := 11, ground := Ground.data }, { on := 13, ground := Ground.data }], guard := none } : Oper)) (v := ?_) rfl (by kernel_rfl) (by kernel_rfl) (by kernel_rfl) (fun _ _ _ h => h) (Or.inl ⟨by rfl, ?_⟩) (by assumption) ?_
  rotate_left 1
  · intro w hSw
    (try dsimp only at hSw)
    go_simp
    try with_reducible rfl
  try simp only [Act.put, List.setIfInBounds_toArray, List.set_cons_zero, List.set_cons_succ]
  refine wpAnyH_take (i := 15) (oi := ({ dst := some 32, op := Op.move (Operand.tmp 31), type := 4, pos := "law.go:17", after := #[{ on := 14, ground := Ground.data }, { on := 11, ground := Ground.chain }], guard := none } : Oper)) (v := ?_) rfl (by kernel_rfl) (by kernel_rfl) (by kernel_rfl) (fun _ _ _ h => h) (Or.inl ⟨by rfl, ?_⟩) (by assumption) ?_
  rotate_left 1
  · intro w hSw
    (try dsimp only at hSw)
    go_simp
    try with_reducible rfl
  try simp only [Act.put, List.setIfInBounds_toArray, List.set_cons_zero, List.set_cons_succ]
  refine wpAnyH_take (i := 16) (oi := ({ dst := some 33, op := Op.fieldAddr 24 (Operand.tmp 3) 0, type := 0, pos := "law.go:17", after := #[{ on := 15, ground := Ground.guard }], guard := some (15, true) } : Oper)) (v := ?_) rfl (by kernel_rfl) (by kernel_rfl) (by kernel_rfl) (fun _ _ _ h => h) (Or.inl ⟨by rfl, ?_⟩) (by assumption) ?_
  rotate_left 1
  · intro w hSw
    (try dsimp only at hSw)
    go_simp
    try with_reducible rfl
  try simp only [Act.put, List.setIfInBounds_toArray, List.set_cons_zero, List.set_cons_succ]
  refine wpAnyH_take (i := 17) (oi := ({ dst := some 34, op := Op.load 22 (Operand.tmp 33), type := 22, pos := "law.go:17", after := #[{ on := 16, ground := Ground.data }, { on := 15, ground := Ground.guard }], guard := some (15, true) } : Oper)) (v := ?_) rfl (by kernel_rfl) (by kernel_rfl) (by kernel_rfl) (fun _ _ _ h => h) (Or.inl ⟨by rfl, ?_⟩) (by assumption) ?_
  rotate_left 1
  · intro w hSw
    (try dsimp only at hSw)
    go_simp
    try with_reducible rfl
  try simp only [Act.put, List.setIfInBounds_toArray, List.set_cons_zero, List.set_cons_succ]
  refine wpAnyH_take (i := 18) (oi := ({ dst := some 35, op := Op.call { callee := Callee.builtin Builtin.len, args := #[Operand.tmp 34], argTypes := #[22] }, type := 3, pos := "law.go:17", after := #[{ on := 17, ground := Ground.data }, { on := 15, ground := Ground.guard }], guard := some (15, true) } : Oper)) (v := ?_) rfl (by kernel_rfl) (by kernel_rfl) (by kernel_rfl) (fun _ _ _ h => h) (Or.inl ⟨by rfl, ?_⟩) (by assumption) ?_
  rotate_left 1
  · intro w hSw
    (try dsimp only at hSw)
    go_simp
    try with_reducible rfl
  try simp only [Act.put, List.setIfInBounds_toArray, List.set_cons_zero, List.set_cons_succ]
  refine wpAnyH_take (i := 19) (oi := ({ dst := some 36, op := Op.binOp BinOp.eql 3 (Operand.tmp 35) (Operand.const (Value.int IntKind.i64 1)) 3, type := 4, pos := "law.go:17", after := #[{ on := 18, ground := Ground.data }, { on := 15, ground := Ground.guard }], guard := some (15, true) } : Oper)) (v := ?_) rfl (by kernel_rfl) (by kernel_rfl) (by kernel_rfl) (fun _ _ _ h => h) (Or.inl ⟨by rfl, ?_⟩) (by assumption) ?_
  rotate_left 1
  · intro w hSw
    (try dsimp only at hSw)
    go_simp
    try with_reducible rfl
  try simp only [Act.put, List.setIfInBounds_toArray, List.set_cons_zero, List.set_cons_succ]
  refine wpAnyH_take (i := 20) (oi := ({ dst := some 37, op := Op.pick (Operand.tmp 32) (Operand.tmp 36) (Operand.const (Value.bool false)), type := 4, pos := "law.go:17", after := #[{ on := 15, ground := Ground.data }, { on := 19, ground := Ground.data }], guard := none } : Oper)) (v := ?_) rfl (by kernel_rfl) (by kernel_rfl) (by kernel_rfl) (fun _ _ _ h => h) (Or.inl ⟨by rfl, ?_⟩) (by assumption) ?_
  rotate_left 1
  · intro w hSw
    (try dsimp only at hSw)
    go_simp
    try with_reducible rfl
  try simp only [Act.put, List.setIfInBounds_toArray, List.set_cons_zero, List.set_cons_succ]
  refine wpAnyH_take (i := 21) (oi := ({ dst := some 38, op := Op.move (Operand.tmp 37), type := 4, pos := "law.go:17", after := #[{ on := 20, ground := Ground.data }, { on := 15, ground := Ground.chain }], guard := none } : Oper)) (v := ?_) rfl (by kernel_rfl) (by kernel_rfl) (by kernel_rfl) (fun _ _ _ h => h) (Or.inl ⟨by rfl, ?_⟩) (by assumption) ?_
  rotate_left 1
  · intro w hSw
    (try dsimp only at hSw)
    go_simp
    try with_reducible rfl
  try simp only [Act.put, List.setIfInBounds_toArray, List.set_cons_zero, List.set_cons_succ]
  refine wpAnyH_take (i := 22) (oi := ({ dst := some 39, op := Op.move (Operand.tmp 4), type := 27, pos := "law.go:17", after := #[{ on := 21, ground := Ground.guard }], guard := some (21, true) } : Oper)) (v := ?_) rfl (by kernel_rfl) (by kernel_rfl) (by kernel_rfl) (fun _ _ _ h => h) (Or.inl ⟨by rfl, ?_⟩) (by assumption) ?_
  rotate_left 1
  · intro w hSw
    (try dsimp only at hSw)
    go_simp
    try with_reducible rfl
  try simp only [Act.put, List.setIfInBounds_toArray, List.set_cons_zero, List.set_cons_succ]
  refine wpAnyH_take (i := 23) (oi := ({ dst := some 40, op := Op.binOp BinOp.eql 27 (Operand.tmp 39) (Operand.const (Value.int IntKind.i64 0)) 27, type := 4, pos := "law.go:17", after := #[{ on := 22, ground := Ground.data }, { on := 21, ground := Ground.guard }], guard := some (21, true) } : Oper)) (v := ?_) rfl (by kernel_rfl) (by kernel_rfl) (by kernel_rfl) (fun _ _ _ h => h) (Or.inl ⟨by rfl, ?_⟩) (by assumption) ?_
  rotate_left 1
  · intro w hSw
    (try dsimp only at hSw)
    go_simp
    try with_reducible rfl
  try simp only [Act.put, List.setIfInBounds_toArray, List.set_cons_zero, List.set_cons_succ]
  refine wpAnyH_take (i := 24) (oi := ({ dst := some 41, op := Op.pick (Operand.tmp 38) (Operand.tmp 40) (Operand.const (Value.bool false)), type := 4, pos := "law.go:17", after := #[{ on := 21, ground := Ground.data }, { on := 23, ground := Ground.data }], guard := none } : Oper)) (v := ?_) rfl (by kernel_rfl) (by kernel_rfl) (by kernel_rfl) (fun _ _ _ h => h) (Or.inl ⟨by rfl, ?_⟩) (by assumption) ?_
  rotate_left 1
  · intro w hSw
    (try dsimp only at hSw)
    go_simp
    try with_reducible rfl
  try simp only [Act.put, List.setIfInBounds_toArray, List.set_cons_zero, List.set_cons_succ]
  refine wpAnyH_take (i := 25) (oi := ({ dst := some 0, op := Op.assign (Operand.tmp 41), type := 4, pos := "law.go:17", after := #[{ on := 24, ground := Ground.data }, { on := 21, ground := Ground.chain }, { on := 0, ground := Ground.phase }, { on := 1, ground := Ground.phase }, { on := 2, ground := Ground.phase }, { on := 3, ground := Ground.phase }, { on := 4, ground := Ground.phase }, { on := 5, ground := Ground.phase }, { on := 6, ground := Ground.phase }, { on := 7, ground := Ground.phase }, { on := 8, ground := Ground.phase }, { on := 9, ground := Ground.phase }, { on := 10, ground := Ground.phase }, { on := 11, ground := Ground.phase }, { on := 12, ground := Ground.phase }, { on := 13, ground := Ground.phase }, { on := 14, ground := Ground.phase }, { on := 15, ground := Ground.phase }, { on := 16, ground := Ground.phase }, { on := 17, ground := Ground.phase }, { on := 18, ground := Ground.phase }, { on := 19, ground := Ground.phase }, { on := 20, ground := Ground.phase }, { on := 21, ground := Ground.phase }, { on := 22, ground := Ground.phase }, { on := 23, ground := Ground.phase }, { on := 24, ground := Ground.phase }], guard := none } : Oper)) (v := ?_) rfl (by kernel_rfl) (by kernel_rfl) (by kernel_rfl) (fun _ _ _ h => h) (Or.inl ⟨by rfl, ?_⟩) (by assumption) ?_
  rotate_left 1
  · intro w hSw
    (try dsimp only at hSw)
    go_simp
    try with_reducible rfl
  try simp only [Act.put, List.setIfInBounds_toArray, List.set_cons_zero, List.set_cons_succ]
  refine wpAnyH_done (by kernel_rfl) ?_ _
  go_wp2_with fail
  go_ret
  exact ⟨rfl, HB5.out.trans (HB8.out.mono HB5.out.size)⟩
/-- of a made network all that a walk needs -/
theorem fit_facts (N : Nt) (h : WfN N) : ∃ (T : Nt) (F : List UInt8), fitNt N = T ∧ mayN T = 0 ∧ WfN T ∧ T.length ≤ 8 ∧ 1 ≤ T.length ∧ (∀ l ∈ T, l.length ≤ 20) ∧ szN T ≤ 160 ∧
    frameN magicN (bodyB T) = F ∧ F.length = (bodyB T).length + 8 ∧ (bodyB T).length ≤ 1364 ∧ takeNf F = (T, 0) ∧ putNf T = (F, 0) := by
  have h1 := manyN_bd N
  have h2 := fitNt_len N
  have h3 := szN_bound (fitNt_le (N := N))
  have h4 : (fitNt N).length * 20 ≤ 8 * 20 := Nat.mul_le_mul_right 20 (by omega)
  have hm : mayN (fitNt N) = 0 := mayN_ok.2 ⟨by omega, by omega, fun l hl => mayT_ok.2 ⟨fitNt_ok l hl, (fitNt_tbl l hl).ord⟩⟩
  have hp := putNf_ok hm
  have ht := takeNf_put hm (fitNt_wf h)
  rw [hp] at ht
  have hb := bodyB_le (fitNt N)
  exact ⟨_, _, rfl, hm, fitNt_wf h, by omega, by omega, fitNt_le, by omega, rfl, by rw [frameN_length], by omega, ht, hp⟩
theorem put10 (v : Value) (T : Nt) (F : List UInt8) (w : World) (hv : IsN w v T) (hs : szN T ≤ 160) (hw : WfN T) (hp : putNf T = (F, 0)) (ht : Hid (Tab w)) :
    Calls Tryd.prog 11 #[v] w fun e w' => ∃ u, e = .returned (.tuple #[u, .int .i64 0]) ∧ IsB w' u F ∧ Below w.heap.size w w' := by
  have h := nfput_any v T w hv (by omega) hw ht
  rw [hp] at h
  exact h
end Go.Proofs.YtohggpaffmcfoaaDoor
