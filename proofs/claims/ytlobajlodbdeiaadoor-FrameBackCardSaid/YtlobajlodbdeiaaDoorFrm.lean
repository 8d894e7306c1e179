/- Contracts of package frame: Put, Take (word, seal); of bytes.Equal, bytes.HasPrefix. -/
import Derived.Test.YtlobajlodbdeiaaDoorCrc
import Derived.Test.YtlobajlodbdeiaaDoorNum
import Derived.Test.YtlobajlodbdeiaaDoorSect
import Derived.Test.YtlobajlodbdeiaaDoorFull
namespace Go.Proofs.YtlobajlodbdeiaaDoor
open Go.RowKit
set_option linter.unusedVariables false
set_option linter.unusedSimpArgs false
attribute [local go_sem ↓] sliced_cut
attribute [local go_sem] cutA_zero

theorem equal_any (v u : Value) (a b : List UInt8) (w : World) (hv : IsB w v a) (hu : IsB w u b) :
    Calls Tryd.prog 25 #[v, u] w fun e w' => e = .returned (.bool (a == b)) ∧ w = w' := by
  have c1 := run_string_isb0 (P := Tryd.prog) w 22 5 9 Tryd.underlying22 Tryd.underlying5 Tryd.underlying9 hv
  have c2 := run_string_isb0 (P := Tryd.prog) w 22 5 9 Tryd.underlying22 Tryd.underlying5 Tryd.underlying9 hu
  clear hv hu
  go_enter Tryd.func25, Tryd.ntmps25
  go_wp2_with fail
  go_ret
  exact ⟨rfl, rfl⟩
theorem word_any (m : Nat) (w : World) (hm : (m : Int) ≤ 4294967295) :
    Calls Tryd.prog 23 #[.int .u32 (m : Int)] w fun e w' => e = .returned (.slice (some ⟨w.heap.size, 0, none⟩) 4 4) ∧ w' = w.alloc (.cells (vals (be 4 m)).toArray 5) := by
  go_enter Tryd.func23, Tryd.ntmps23
  go_wp2_with fail
  refine (put_ok (m : Int) 4 w (by omega) (by omega) (by omega) (by simp; omega)).mono ?_
  rintro e w' ⟨rfl, rfl⟩
  go_wp2_with fail
  go_ret
  exact ⟨rfl, rfl⟩
theorem prefix_any (v u : Value) (a b : List UInt8) (w : World) (hv : IsB w v a) (hu : IsB w u b) :
    Calls Tryd.prog 22 #[v, u] w fun e w' => e = .returned (.bool (decide (b.length ≤ a.length) && (a.take b.length == b))) ∧ w = w' := by
  obtain ⟨A, n, c, rfl, hnc, hcm, hl, hA⟩ := hv
  obtain ⟨B, m, d, rfl, hmd, hdm, hm, hB⟩ := hu
  rw [hm, hl]
  have hcm' := hcm
  unfold maxLen at hcm'
  by_cases h : m ≤ n
  · have h1 : decide (m ≤ n) = true := decide_eq_true h
    have he := fun w : World => equal_any (.slice A m c) (.slice B m d) (a.take m) b w
    have H1 : Hid (IsB w (.slice A m c) (a.take m)) := ⟨_, _, _, rfl, by omega, hcm, by rw [List.length_take]; omega, by rw [vals_take]; exact hA.take m⟩
    have H2 : Hid (IsB w (.slice B m d) b) := ⟨_, _, _, rfl, hmd, hdm, hm, hB⟩
    have hmc : (m : Int) ≤ (c : Int) := by omega
    have HE := Lib.hid he
    have HD : Hid (decide (m ≤ n) = true) := decide_eq_true h
    clear hl hA hm hB h he
    go_enter Tryd.func22, Tryd.ntmps22
    go_wp2_with (go_at_call 25; refine (HE.out _ H1.out H2.out).mono ?_; rintro e w' ⟨rfl, rfl⟩)
    go_ret
    exact ⟨by rw [HD.out]; rfl, rfl⟩
  · have h1 : decide (m ≤ n) = false := decide_eq_false h
    have HD : Hid (decide (m ≤ n) = false) := decide_eq_false h
    clear hl hA hm hB h
    go_enter Tryd.func22, Tryd.ntmps22
    go_wp2_with fail
    go_ret
    exact ⟨by rw [HD.out]; rfl, rfl⟩
/-- with their sum behind them: onto a row of the call's own -/
theorem seal_own (base : Nat) (v : Value) (n : Nat) (l : List UInt8) (w : World) (hown : w.ownsRow base 5 1 v n (vals l)) (hb : base ≤ w.heap.size) (hn : (n : Int) ≤ 1099511640000) (ht : Hid (Tab w)) :
    Calls Tryd.prog 24 #[v] w fun e w' => ∃ v', e = .returned v' ∧ w'.ownsRow base 5 1 v' (n + 4) (vals (sealN l)) ∧ Below base w w' := by
  have HO := Lib.hid hown
  have HV := Lib.hid (IsB.of_own hown)
  have HI := Lib.hid byte_info
  have HB := Lib.hid hb
  have hs : ((sumN l : Nat) : Int) ≤ 4294967295 := by have := sumN_le l; omega
  have HW := Lib.hid (word_any (sumN l) w hs)
  clear hown hb
  go_enter Tryd.func24, Tryd.ntmps24
  go_wp2_with fail
  refine (sum_any _ _ _ HV.out ht).mono ?_
  rintro e w' ⟨rfl, rfl⟩
  go_wp2_with fail
  refine HW.out.mono ?_
  rintro e w1 ⟨rfl, rfl⟩
  have HN := Lib.hid (Has.new w (vals (be 4 (sumN l))) 5 (0, 0))
  have HL : Hid ((vals (be 4 (sumN l))).length = 4) := by show _ = _; rw [vals_length, be_length]
  obtain ⟨i0, hi0, hz0, hz1, hz2⟩ := info_parts HI.out
  go_wp2_with (at_builtin; refine wpList_append_has _ rfl (.tmp 3) (.tmp 6) _ rfl base 5 i0 (.int .u8 0) 1 Tryd.underlying22 hi0 hz0 hz1 hz2 rfl v n _ rfl (HO.out.alloc _) _ 4 _ _ rfl HL.out HN.out (vals_one _) (by unfold maxLen; omega) (by omega) (by have := HB.out; simp; omega) ?_; intro v2 w2 hown2 hgrow2 _; have HO2 := Lib.hid hown2; have HG2 := Lib.hid hgrow2; clear hown2 hgrow2)
  go_ret
  refine ⟨_, rfl, ?_, ?_⟩
  · have h := HO2.out
    rw [← vals_append] at h
    exact h
  · exact ((Below.refl _ _).alloc HB.out _).grown HG2.out (by have := HB.out; simp; omega) (fun q hq => (HO.out.lt q hq).1)
/-- with their sum behind them, in new memory -/
theorem seal_full (A : Option Addr) (n : Nat) (l : List UInt8) (w : World) (hn0 : 1 ≤ (n : Int)) (hl : l.length = n) (hA : Has w A (vals l)) (hn : (n : Int) ≤ 1099511640000) (ht : Hid (Tab w)) :
    Calls Tryd.prog 24 #[.slice A n n] w fun e w' => ∃ v', e = .returned v' ∧ w'.ownsRow w.heap.size 5 1 v' (n + 4) (vals (sealN l)) ∧ Below w.heap.size w w' := by
  have HV : Hid (IsB w (.slice A n n) l) := ⟨_, _, _, rfl, Nat.le_refl _, by unfold maxLen; omega, hl, hA⟩
  have HA := Lib.hid hA
  have HI := Lib.hid byte_info
  have HX : Hid ((vals l).length = n) := by show _ = _; rw [vals_length]; exact hl
  have hs : ((sumN l : Nat) : Int) ≤ 4294967295 := by have := sumN_le l; omega
  have HW := Lib.hid (word_any (sumN l) w hs)
  clear hl hA
  go_enter Tryd.func24, Tryd.ntmps24
  go_wp2_with fail
  refine (sum_any _ _ _ HV.out ht).mono ?_
  rintro e w' ⟨rfl, rfl⟩
  go_wp2_with fail
  refine HW.out.mono ?_
  rintro e w1 ⟨rfl, rfl⟩
  have HN := Lib.hid (Has.new w (vals (be 4 (sumN l))) 5 (0, 0))
  have HL : Hid ((vals (be 4 (sumN l))).length = 4) := by show _ = _; rw [vals_length, be_length]
  obtain ⟨i0, hi0, hz0, hz1, hz2⟩ := info_parts HI.out
  go_wp2_with (at_builtin; refine wpList_append_full _ rfl (.tmp 3) (.tmp 6) _ rfl 5 i0 (.int .u8 0) 1 Tryd.underlying22 hi0 hz0 hz1 hz2 rfl A n _ rfl HX.out (by omega) (HA.out.alloc _) _ 4 _ _ rfl HL.out (by omega) HN.out (by unfold maxLen; omega) (by omega) ?_; intro v2 w2 hown2 hgrow2; have HO2 := Lib.hid hown2; have HG2 := Lib.hid hgrow2; clear hown2 hgrow2)
  go_ret
  refine ⟨_, rfl, ?_, ?_⟩
  · have h := HO2.out
    rw [← vals_append] at h
    exact own_base h (by simp)
  · exact ((Below.refl _ _).alloc (Nat.le_refl _) _).grown HG2.out (by simp) (fun q hq => by cases hq)
end Go.Proofs.YtlobajlodbdeiaaDoor
