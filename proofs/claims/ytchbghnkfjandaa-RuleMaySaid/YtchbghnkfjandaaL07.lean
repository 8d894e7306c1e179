/- The helpers of the laws of package theseuslaw07: few, shown; what the program answers for a rule of letters. -/
import Derived.Test.YtchbghnkfjandaaRulP
import Derived.Test.YtchbghnkfjandaaRulT
import Derived.Test.YtchbghnkfjandaaFrame
namespace Go.Proofs.Ytchbghnkfjandaa
open Go.RowKit
set_option linter.unusedVariables false
set_option linter.unusedSimpArgs false

theorem few7 (A : Option Addr) (n c : Nat) (w : World) (hn : n ≤ c) (hc : c ≤ maxLen) :
    Calls Try.prog 12 #[.slice A n c] w fun e w' => e = .returned (.slice A (min n 30) c) ∧ w = w' := by
  unfold maxLen at hc
  have hm : (min (n : Int) 30).toNat = min n 30 := by omega
  have HM := Lib.hid hm
  clear hm
  go_enter Try.func12, Try.ntmps12
  go_wp2
  go_ret
  exact ⟨by rw [← HM.out]; rfl, rfl⟩
/-- of an argument cut to 30 bytes all that a walk needs -/
theorem few_pack7 (A : Option Addr) (n c : Nat) (l : List UInt8) (w : World) (h : InB w A n c l) :
    ∃ (m : Nat) (L : List UInt8), (m : Int) ≤ 30 ∧ L.length = m ∧ m ≤ c ∧ c ≤ maxLen ∧ Hid (Has w A (vals L)) ∧ Hid (∀ W, Calls Try.prog 12 #[.slice A n c] W fun e w' => e = .returned (.slice A m c) ∧ W = w') := by
  obtain ⟨hlen, hcap, hmax, hhas⟩ := h
  refine ⟨min n 30, l.take 30, by omega, by rw [List.length_take, hlen]; omega, by omega, hmax, ?_, fun W => few7 A n c W hcap hmax⟩
  show Has _ _ _
  rw [vals_take]
  exact hhas.take 30
/-- string(b) in one world, and in all that only drew -/
theorem str_in {w : World} {v : Value} {bs : List UInt8} (h : IsB w v bs) : (convert 26 9 v).run Try.prog w = .ok (.string ⟨bs.toArray⟩) w :=
  run_string_isb0 (P := Try.prog) w 26 5 9 Try.underlying26 Try.underlying5 Try.underlying9 h
theorem str_at {w : World} {v : Value} {bs : List UInt8} (h : IsB w v bs) : ∀ k, (convert 26 9 v).run Try.prog (w.drewN k) = .ok (.string ⟨bs.toArray⟩) (w.drewN k) :=
  run_string_isb (P := Try.prog) w 26 5 9 Try.underlying26 Try.underlying5 Try.underlying9 h
/-- the length of bytes that an answer says -/
theorem isb_slice {w : World} {v : Value} {bs : List UInt8} (h : IsB w v bs) : ∃ A c, v = .slice A bs.length c ∧ bs.length ≤ c ∧ c ≤ maxLen ∧ Has w A (vals bs) := by
  obtain ⟨A, n, c, rfl, h1, h2, rfl, h4⟩ := h
  exact ⟨A, c, rfl, h1, h2, h4⟩
set_option maxRecDepth 10000 in
theorem shown7 (w : World) : Calls Try.prog 8 #[] w fun e w' => e = .returned (.bool true) ∧ Below w.heap.size w w' := by
  have C1 := Lib.hid (fun w => rulput_any 167772160 8 1 3 w (by decide))
  rw [show putR 167772160 8 1 3 = ([10, 0, 0, 0, 8, 1, 0, 3], 0) by decide +kernel] at C1
  have ht : takeR [10, 0, 0, 0, 8, 1, 0, 3] = (⟨167772160, 8, 1, 3⟩, 0) := by rw [takeR_long (by decide)]; rfl
  go_enter Try.func8, Try.ntmps8
  go_wp2_with fail
  refine (C1.out _).mono ?_
  rintro e1 w1 ⟨v, rfl, hv, hb⟩
  have HB1 := Lib.hid hb
  have HV := Lib.hid hv
  have c2 := rultake_any v [10, 0, 0, 0, 8, 1, 0, 3] w1 hv
  rw [ht] at c2
  have C2 := Lib.hid c2
  clear hb hv c2 ht C1
  go_wp2_with fail
  refine C2.out.mono ?_
  rintro e1 w2 ⟨rfl, hb⟩
  have HB2 := Lib.hid (HB1.out.trans (hb.mono HB1.out.size))
  have hs := str_in ((HV.out.bel hb).bel ((Below.refl w2.heap.size w2).alloc (Nat.le_refl _) (.cells #[.int .u32 167772160, .int .i64 8, .int .i64 1, .int .i64 3] 24)))
  clear hb C2 HV
  go_wp2_with fail
  go_ret
  exact ⟨rfl, HB2.out.alloc HB2.out.size _⟩
end Go.Proofs.Ytchbghnkfjandaa
