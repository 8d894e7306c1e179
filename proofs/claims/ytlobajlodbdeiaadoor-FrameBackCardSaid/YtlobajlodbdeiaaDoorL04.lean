/- The helpers of the laws of package theseuslaw04: shown, few. -/
import Derived.Test.YtlobajlodbdeiaaDoorOpen
import Derived.Test.YtlobajlodbdeiaaDoorFrame
import Derived.Lib.SlBytesConst
namespace Go.Proofs.YtlobajlodbdeiaaDoor
open Go.RowKit
set_option linter.unusedVariables false
set_option linter.unusedSimpArgs false

theorem few4 (A : Option Addr) (n c : Nat) (w : World) (hn : n ≤ c) (hc : c ≤ maxLen) :
    Calls Tryd.prog 11 #[.slice A n c] w fun e w' => e = .returned (.slice A (min n 150) c) ∧ w = w' := by
  unfold maxLen at hc
  by_cases h : n ≤ 150
  · go_enter Tryd.func11, Tryd.ntmps11
    go_wp2
    go_ret
    exact ⟨by rw [Nat.min_eq_left h]; rfl, rfl⟩
  · go_enter Tryd.func11, Tryd.ntmps11
    go_wp2
    go_ret
    exact ⟨by rw [Nat.min_eq_right (by omega)]; rfl, rfl⟩
theorem few_pack (A : Option Addr) (n c : Nat) (l : List UInt8) (w : World) (h : InB w A n c l) :
    ∃ (m : Nat) (L : List UInt8), m ≤ 150 ∧ L.length = m ∧ m ≤ c ∧ c ≤ maxLen ∧ Hid (Has w A (vals L)) ∧ Hid (∀ W, Calls Tryd.prog 11 #[.slice A n c] W fun e w' => e = .returned (.slice A m c) ∧ W = w') := by
  obtain ⟨hlen, hcap, hmax, hhas⟩ := h
  refine ⟨min n 150, l.take 150, by omega, by rw [List.length_take, hlen]; omega, by omega, hmax, ?_, fun W => few4 A n c W hcap hmax⟩
  show Has _ _ _
  rw [vals_take]
  exact hhas.take 150
/-- a quiet call's form -/
theorem quiet_few {A : Option Addr} {n c m : Nat} (h : Hid (∀ W, Calls Tryd.prog 11 #[.slice A n c] W fun e w' => e = .returned (.slice A m c) ∧ W = w')) (w : World) :
    Hid (∀ k, Calls Tryd.prog 11 #[.slice A n c] (w.drewN k) fun e w' => e = .returned (.slice A m c) ∧ w' = w.drewN k) :=
  fun k => (h.out (w.drewN k)).mono fun _ _ ⟨h1, h2⟩ => ⟨h1, h2.symm⟩
/-- string(b) in one world, and in all that only drew -/
theorem str_in {w : World} {v : Value} {bs : List UInt8} (h : IsB w v bs) : (convert 22 9 v).run Tryd.prog w = .ok (.string ⟨bs.toArray⟩) w :=
  run_string_isb0 (P := Tryd.prog) w 22 5 9 Tryd.underlying22 Tryd.underlying5 Tryd.underlying9 h
theorem str_at {w : World} {v : Value} {bs : List UInt8} (h : IsB w v bs) : ∀ k, (convert 22 9 v).run Tryd.prog (w.drewN k) = .ok (.string ⟨bs.toArray⟩) (w.drewN k) :=
  run_string_isb (P := Tryd.prog) w 22 5 9 Tryd.underlying22 Tryd.underlying5 Tryd.underlying9 h
/-- Open's code alone -/
theorem open_code (tag : UInt8) (v : Value) (l : List UInt8) (w : World) (hv : IsB w v l) (hn : (l.length : Int) ≤ 1099511627776) (code : Int) (h : (openF tag l).2.2 = code) :
    Calls Tryd.prog 15 #[.int .u8 (tag.toNat : Int), v] w fun e w' => ∃ a b, e = .returned (.tuple #[a, b, .int .i64 code]) ∧ Below w.heap.size w w' := by
  subst h
  exact (open_any tag v l w hv hn).mono fun e w' ⟨a, b, h1, _, _, h2⟩ => ⟨a, b, h1, h2⟩
theorem sect_example : sectF 7 [97, 98] = ([7, 2, 97, 98], 0) := by decide +kernel
theorem open_example : openF 7 [7, 2, 97, 98, 99] = ([97, 98], [99], 0) := by decide +kernel
set_option maxRecDepth 100000 in
theorem shown4 (w : World) : Calls Tryd.prog 9 #[] w fun e w' => e = .returned (.bool true) ∧ Below w.heap.size w w' := by
  have kc := fun (w : World) (C : Array Value) (n c : Nat) => Lib.run_convert_bytes_const (P := Tryd.prog) w 22 5 C n c Tryd.underlying22 Tryd.underlying5
  have HB1 : Hid (Below w.heap.size w (w.alloc (.cells (vals [97, 98]).toArray 5 (2, 3)))) := (Below.refl _ _).alloc (Nat.le_refl _) _
  have HV1 : Hid (IsB (w.alloc (.cells (vals [97, 98]).toArray 5 (2, 3))) (.slice (some ⟨w.heap.size, 0, none⟩) 2 2) [97, 98]) := IsB.new w [97, 98] 5 (2, 3) 2 rfl (by decide)
  go_enter Tryd.func9, Tryd.ntmps9
  go_wp2_with fail
  refine (section_any 7 _ _ _ HV1.out (by decide)).mono ?_
  rintro e w1 ⟨v1, rfl, hv1, hb1⟩
  rw [sect_example] at hv1 ⊢
  have HR1 := Lib.hid hv1
  have HB2 := Lib.hid (HB1.out.trans (hb1.mono HB1.out.size))
  have HV2 := Lib.hid (IsB.new w1 [7, 2, 97, 98, 99] 5 (5, 6) 5 rfl (by decide))
  have HB3 := Lib.hid (HB2.out.alloc HB2.out.size (.cells (vals [7, 2, 97, 98, 99]).toArray 5 (5, 6)))
  have HR2 : Hid (IsB (w1.alloc (.cells (vals [7, 2, 97, 98, 99]).toArray 5 (5, 6))) v1 [7, 2, 97, 98]) := hv1.bel ((Below.refl _ _).alloc (Nat.le_refl _) _)
  clear hv1 hb1
  go_wp2_with fail
  refine (open_any 7 _ _ _ HV2.out (by decide)).mono ?_
  rintro e w2 ⟨v2, v3, rfl, hv2, hv3, hb2⟩
  rw [open_example] at hv2 hv3 ⊢
  have HB4 := Lib.hid (HB3.out.trans (hb2.mono HB3.out.size))
  have hr2 := HR2.out.bel hb2
  have c1 := run_string_isb0 (P := Tryd.prog) w2 22 5 9 Tryd.underlying22 Tryd.underlying5 Tryd.underlying9 hr2
  have c2 := run_string_isb0 (P := Tryd.prog) w2 22 5 9 Tryd.underlying22 Tryd.underlying5 Tryd.underlying9 hv2
  have c3 := run_string_isb0 (P := Tryd.prog) w2 22 5 9 Tryd.underlying22 Tryd.underlying5 Tryd.underlying9 hv3
  clear hr2 hv2 hv3 hb2 HR2 HR1
  go_wp2_with fail
  go_ret
  exact ⟨rfl, HB4.out⟩
end Go.Proofs.YtlobajlodbdeiaaDoor
