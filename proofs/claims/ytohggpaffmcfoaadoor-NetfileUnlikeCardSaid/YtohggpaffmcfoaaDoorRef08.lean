/- Contracts of package theseusref08: May. -/
import Derived.Test.YtohggpaffmcfoaaDoorTblKit
import Derived.Test.YtohggpaffmcfoaaDoorRef07
import Derived.Deep.DeepCutAuto
import Derived.Deep.RegionHeld3
import Derived.BigQuiet
namespace Go.Proofs.YtohggpaffmcfoaaDoor
open Go.RowKit
set_option linter.unusedVariables false
set_option maxRecDepth 100000
set_option linter.unusedSimpArgs false

set_option maxHeartbeats 4000000 in
theorem rmayT_any (v : Value) (l : List Rl) (m : Int) (w : World) (hv : IsR w v l) (hwf : ∀ r ∈ l, r.at_ ≤ 4294967295) :
    Calls Tryd.prog 47 #[v, .int .i64 m] w fun e w' => e = .returned (.int .i64 (mayT l m)) ∧ Below w.heap.size w w' := by
  obtain ⟨A, n, c, rfl, hn, hc, hl, hA⟩ := hv
  have HA := Lib.hid hA
  have HL := Lib.hid hl
  have HW := Lib.hid hwf
  have hnm : (n : Int) ≤ 9223372036854775807 := by unfold maxLen at hc; omega
  clear hA hl hwf hn hc
  go_enter Tryd.func47, Tryd.ntmps47
  go_wp2
  go_loopw [5] (fun i wr => ∃ k : Nat, k ≤ n ∧ i = .int .i64 k ∧ Hid (Below w.heap.size w wr) ∧ Hid (mayT l m = mayGo (prevOf l k) (l.drop k) m)) (fun i _ => n - (intOf i).toNat)
  case atStart => exact ⟨0, by omega, rfl, Below.refl _ _, by show _ = _; rw [prev_zero]; rfl⟩
  case round =>
    obtain ⟨k, hk, rfl, HB, HM⟩ := hrel
    by_cases hlt : k < n
    · have hkl : k < l.length := by rw [HL.out]; exact hlt
      have hki : (k : Int) < (n : Int) := by omega
      obtain ⟨ad, rfl, _⟩ := HA.out (by rw [rcells_length]; omega)
      have HF : Hid (∀ wx, Below w.heap.size w wx → Four wx (ad.add (k * 4)) l[k]) := fun wx hx => (HA.out.bel hx).four k hkl
      have hat : ((l[k].at_ : Nat) : Int) ≤ 4294967295 := by have := HW.out l[k] (List.getElem_mem hkl); omega
      have C1 := Lib.hid (fun w => rmayr_any l[k].at_ l[k].len l[k].act l[k].nxt m w hat)
      obtain ⟨f0, f1, f2, f3⟩ := HF.out wr HB.out
      by_cases he : mayRl l[k] m = 0
      · have hb2 := mayT_at l k m hkl
        rw [show mayR l[k].at_ l[k].len l[k].act l[k].nxt m = 0 from he] at C1
        rcases Nat.eq_zero_or_pos k with hk0 | hk0
        · have HN : Hid (mayT l m = mayGo (prevOf l (k + 1)) (l.drop (k + 1)) m) := by
            subst hk0
            exact HM.out.trans (mayT_first l m hkl he)
          have hz : (k : Int) ≤ 0 := by omega
          have hd1 : decide ((0 : Int) < (k : Int)) = false := decide_eq_false (by omega)
          have hd2 : decide (0 < k) = false := decide_eq_false (by omega)
          have hd3 : decide ((k : Int) > 0) = false := hd1
          clear hk0
          clear he hb2
          go_wp2_with fail
          refine (C1.out _).mono ?_
          rintro e1 w1 ⟨rfl, hb⟩
          have HB1 := Lib.hid (HB.out.trans (hb.mono HB.out.size))
          clear hb f0 f1 f2 f3
          go_upto_region 7 with fail
          go_cut [36] (fun t wx => t = .bool false ∧ Hid (Below w.heap.size w wx))
          case first =>
            go_quiet (fail)
            go_wp2_with fail
            go_meet
            exact ⟨rfl, drewN_below HB1.out _⟩
          case rest =>
            obtain ⟨rfl, HBc⟩ := hcut
            go_wp2_with fail
            go_roundw
            case rel => exact ⟨k + 1, by omega, by go_num, HBc, HN⟩
            case measure => simp [intOf]; omega
        · obtain ⟨q, hq⟩ : ∃ q, k = q + 1 := ⟨k - 1, by omega⟩
          have hkp : (0 : Int) < (k : Int) := by omega
          have hkz : (0 : Int) ≤ (k : Int) := by omega
          have hd1 : decide ((0 : Int) < (k : Int)) = true := decide_eq_true (by omega)
          have hd2 : decide (0 < k) = true := decide_eq_true (by omega)
          have hd3 : decide ((k : Int) > 0) = true := hd1
          have hql : q < l.length := by omega
          have hq0 : (0 : Int) ≤ (q : Int) := by omega
          have hq1 : (q : Int) < (n : Int) := by omega
          have hsub : IntKind.i64.wrap ((k : Int) - 1) = (q : Int) := by rw [IntKind.wrap_i64]; omega
          have HG : Hid (∀ wx, Below w.heap.size w wx → Four wx (ad.add (q * 4)) l[q]) := fun wx hx => (HA.out.bel hx).four q hql
          have C2 := Lib.hid (fun w => rcompr_any l[k].at_ l[q].at_ l[k].len l[k].act l[k].nxt l[q].len l[q].act l[q].nxt w)
          have hor : (cmpR l[k] l[q] = 1 ∧ Hid (mayT l m = mayGo (prevOf l (k + 1)) (l.drop (k + 1)) m)) ∨ (cmpR l[k] l[q] ≠ 1 ∧ Hid (mayT l m = 11)) := by
            subst hq
            by_cases hc : cmpR l[q + 1] l[q] = 1
            · exact .inl ⟨hc, HM.out.trans (mayT_next l q m hkl he hc)⟩
            · exact .inr ⟨hc, HM.out.trans (mayT_order l q m hkl he hc)⟩
          rw [show cmpI l[k].at_ l[k].len l[q].at_ l[q].len = cmpR l[k] l[q] from rfl] at C2
          clear hq hk0
          generalize cmpR l[k] l[q] = cr at *
          clear he hb2 HM
          go_wp2_with fail
          refine (C1.out _).mono ?_
          rintro e1 w1 ⟨rfl, hb⟩
          have HB1 := Lib.hid (HB.out.trans (hb.mono HB.out.size))
          clear hb f0 f1 f2 f3
          obtain ⟨f0, f1, f2, f3⟩ := HF.out w1 HB1.out
          obtain ⟨g0, g1, g2, g3⟩ := HG.out w1 HB1.out
          have HD := Lib.hid (Below.refl w1.heap.size w1).drew
          go_upto_region 7 with fail
          go_cut [36] (fun t wx => t = .bool (cr != 1) ∧ Hid (Below w1.heap.size w1 wx))
          case first =>
            go_region_held3 (fun w' => (w'.cell? (ad.add (k * 4)) = some (.int .u32 (l[k].at_ : Int)) ∧ w'.cell? ⟨(ad.add (k * 4)).block, (ad.add (k * 4)).off + 1, none⟩ = some (.int .i64 l[k].len) ∧ w'.cell? ⟨(ad.add (k * 4)).block, (ad.add (k * 4)).off + 2, none⟩ = some (.int .i64 l[k].act) ∧ w'.cell? ⟨(ad.add (k * 4)).block, (ad.add (k * 4)).off + 3, none⟩ = some (.int .i64 l[k].nxt)) ∧ (w'.cell? (ad.add (q * 4)) = some (.int .u32 (l[q].at_ : Int)) ∧ w'.cell? ⟨(ad.add (q * 4)).block, (ad.add (q * 4)).off + 1, none⟩ = some (.int .i64 l[q].len) ∧ w'.cell? ⟨(ad.add (q * 4)).block, (ad.add (q * 4)).off + 2, none⟩ = some (.int .i64 l[q].act) ∧ w'.cell? ⟨(ad.add (q * 4)).block, (ad.add (q * 4)).off + 3, none⟩ = some (.int .i64 l[q].nxt)))
              (first | go_keep | exact ⟨HF.out _ (HB1.out.trans (D1.out.mono HB1.out.size)), HG.out _ (HB1.out.trans (D1.out.mono HB1.out.size))⟩)
              (first
                | (go_simp; go_at_call 62; refine (C2.out _).mono ?_; rintro e w2 ⟨rfl, hb2⟩; have D1 := Lib.hid (HD.out.trans (hb2.mono HD.out.size)); clear hb2))
            all_goals
              go_wp2_with fail
              go_meet
              exact ⟨rfl, D1⟩
          case rest =>
            obtain ⟨rfl, HBc⟩ := hcut
            have HB2 := Lib.hid (HB1.out.trans (HBc.out.mono HB1.out.size))
            clear HBc HD C1 C2 f0 f1 f2 f3 g0 g1 g2 g3
            rcases hor with ⟨rfl, HN⟩ | ⟨hc, HN⟩
            · go_wp2_with fail
              go_roundw
              case rel => exact ⟨k + 1, by omega, by go_num, HB2, HN⟩
              case measure => simp [intOf]; omega
            · have t1 : (cr != 1) = true := by rw [bne_iff_ne]; exact hc
              go_wp2_with fail
              go_ret
              exact ⟨by rw [HN.out]; rfl, HB2.out⟩
      · have HE : Hid (mayT l m = mayRl l[k] m) := HM.out.trans (mayT_bad l k m hkl he)
        rw [show mayR l[k].at_ l[k].len l[k].act l[k].nxt m = mayRl l[k] m from rfl] at C1
        have t1 : (mayRl l[k] m != 0) = true := by rw [bne_iff_ne]; exact he
        generalize mayRl l[k] m = er at *
        clear he HM
        go_wp2_with fail
        refine (C1.out _).mono ?_
        rintro e1 w1 ⟨rfl, hb⟩
        have HB1 := Lib.hid (HB.out.trans (hb.mono HB.out.size))
        clear hb f0 f1 f2 f3
        go_wp2_with fail
        go_ret
        exact ⟨by rw [HE.out]; rfl, HB1.out⟩
    · obtain rfl : k = n := by omega
      have HE : Hid (mayT l m = 0) := by
        have h := mayT_end l m
        rw [HL.out] at h
        exact HM.out.trans h
      go_wp2_with fail
      go_ret
      exact ⟨by rw [HE.out]; rfl, HB.out⟩
end Go.Proofs.YtohggpaffmcfoaaDoor
