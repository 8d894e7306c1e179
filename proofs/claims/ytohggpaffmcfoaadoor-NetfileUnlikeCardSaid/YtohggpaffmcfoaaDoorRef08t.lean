/- Contract of package theseusref08: Fit: a table that may be. -/
import Derived.Test.YtohggpaffmcfoaaDoorTblKit
import Derived.Test.YtohggpaffmcfoaaDoorRef07R
import Derived.Test.YtohggpaffmcfoaaDoorBlk
import Derived.Deep.DeepCutAuto
import Derived.Deep.RegionHeld3
import Derived.BigQuiet
namespace Go.Proofs.YtohggpaffmcfoaaDoor
open Go.RowKit
set_option linter.unusedVariables false
set_option maxRecDepth 100000
set_option linter.unusedSimpArgs false
attribute [local go_sem ↓] sliced_cut
attribute [local go_sem] cutA_zero

theorem Has.cutR {w : World} {A : Option Addr} {l : List Rl} (h : Has w A (rcells l)) {k cap : Nat} (hc : l.length ≤ cap) : Has w (Go.Proofs.YtohggpaffmcfoaaDoor.cutA A cap k 4) (rcells (l.drop k)) := by
  intro hn
  rw [rcells_length, List.length_drop] at hn
  obtain ⟨ad, rfl, hcell⟩ := h (by rw [rcells_length]; omega)
  unfold Go.Proofs.YtohggpaffmcfoaaDoor.cutA
  rw [if_neg (by omega)]
  refine ⟨ad.add (k * 4), rfl, fun j u hu => ?_⟩
  rw [add_of_add]
  exact hcell _ u (by rw [← hu, rcells_drop, List.getElem?_drop])
theorem bel_step {w wx wy : World} {g : Nat} (hg : w.heap.size = g) (h : Below g w wx) (hb : Below wx.heap.size wx wy) : Below g w wy := h.trans (hb.mono (by rw [← hg]; exact h.size))
theorem own_len {w : World} {base n : Nat} {e : TypeId} {v : Value} {L : List Rl} (h : w.ownsRow base e 4 v n (rcells L)) : w.ownsRow base e 4 v L.length (rcells L) := by
  have hl := h.1
  rw [rcells_length] at hl
  rw [show L.length = n by omega]
  exact h
theorem fit_succ (l : List Rl) (m : Int) (k : Nat) (hk : k < l.length) : insAll [] ((l.take (k + 1)).map (fitRl m)) = ins (insAll [] ((l.take k).map (fitRl m))) (fitRl m l[k]) := by
  rw [List.take_succ_eq_append_getElem hk, List.map_append]
  unfold insAll
  rw [List.foldl_append]
  rfl
theorem fit_len (l : List Rl) (m : Int) (k : Nat) : (insAll [] ((l.take k).map (fitRl m))).length ≤ k := by
  have := insAll_le ((l.take k).map (fitRl m)) []
  simp only [List.length_nil, List.length_map, List.length_take] at this
  omega
theorem split_at (out : List Rl) (r : Rl) (q : Nat) (hq : ∀ z ∈ out.take q, ltR z r) (hc : ∀ h : q < out.length, cmpR out[q] r = 1) : ins out r = out.take q ++ r :: out.drop q := by
  have e := ins_split (y := out.drop q) hq
  rw [List.take_append_drop] at e
  rw [e]
  congr 1
  by_cases h : q < out.length
  · rw [List.drop_eq_getElem_cons h]
    have := hc h
    unfold ins
    rw [if_neg (by omega), if_neg (by omega)]
  · rw [List.drop_eq_nil_of_le (by omega)]
    rfl
theorem split_same (out : List Rl) (r : Rl) (q : Nat) (h : q < out.length) (hq : ∀ z ∈ out.take q, ltR z r) (hc : cmpR out[q] r = 0) : ins out r = out := by
  have e := ins_split (y := out.drop q) hq
  rw [List.take_append_drop] at e
  rw [e, List.drop_eq_getElem_cons h]
  have e2 : ins (out[q] :: out.drop (q + 1)) r = out[q] :: out.drop (q + 1) := by
    unfold ins
    rw [if_neg (by omega), if_pos hc]
  rw [e2, ← List.drop_eq_getElem_cons h, List.take_append_drop]
theorem split_more (out : List Rl) (r : Rl) (q : Nat) (h : q < out.length) (hq : ∀ z ∈ out.take q, ltR z r) (hc : cmpR out[q] r = -1) : ∀ z ∈ out.take (q + 1), ltR z r := fun z hz => by
  rw [List.take_succ_eq_append_getElem h] at hz
  rcases List.mem_append.1 hz with hz | hz
  · exact hq z hz
  · rw [List.mem_singleton.1 hz]
    exact hc
set_option maxHeartbeats 8000000 in
theorem rfitT_any (v : Value) (l : List Rl) (m : Nat) (w : World) (hv : IsR w v l) (hwf : ∀ r ∈ l, r.at_ ≤ 4294967295) (hm0 : 1 ≤ (m : Int)) (hm1 : (m : Int) ≤ 512) :
    Calls Tryd.prog 38 #[v, .int .i64 m] w fun e w' => ∃ r, e = .returned r ∧ w'.ownsRow w.heap.size 47 4 r (fitT m l).length (rcells (fitT m l)) ∧ Below w.heap.size w w' := by
  obtain ⟨A0, n, c, rfl, hn, hc, hl, hA⟩ := hv
  have HA := Lib.hid hA
  have HL := Lib.hid hl
  have HW := Lib.hid hwf
  have hnm : (n : Int) ≤ 9223372036854775807 := by unfold maxLen at hc; omega
  have HRI := Lib.hid rule_info
  obtain ⟨g, hg⟩ : ∃ g, w.heap.size = g := ⟨_, rfl⟩
  have HGG := Lib.hid hg
  have HO0 : Hid ((w.alloc (.cells #[] 47)).ownsRow g 47 4 (.slice (some ⟨g, 0, none⟩) 0 0) 0 (rcells [])) := by
    subst hg
    exact World.ownsRow_lit (e := 47) (size := 4) w #[] 0 (Nat.le_refl _) (by decide) rfl
  have HB0 : Hid (Below g w (w.alloc (.cells #[] 47))) := by
    subst hg
    exact (Below.refl w.heap.size w).alloc (Nat.le_refl _) _
  clear hA hl hwf hn hc
  go_enter Tryd.func38, Tryd.ntmps38
  go_wp2
  clear hg
  generalize w.alloc (.cells #[] 47) = w1 at *
  go_loopw [5, 6] (fun o i wr => ∃ k : Nat, k ≤ n ∧ k ≤ 20 ∧ i = .int .i64 k ∧ ∃ out : List Rl, Hid (out = insAll [] ((l.take k).map (fitRl m))) ∧ Hid (wr.ownsRow g 47 4 o out.length (rcells out)) ∧ Hid (Below g w wr)) (fun _ i _ => 20 - (intOf i).toNat)
  case atStart => exact ⟨0, by omega, by omega, rfl, [], by show _ = _; simp [insAll], HO0, HB0⟩
  case round =>
    obtain ⟨k, hkn, hk20, rfl, out, HOUT, HO, HB⟩ := hrel
    clear HO0 HB0
    by_cases hend : k < n ∧ k < 20
    · obtain ⟨hlt, hlt20⟩ := hend
      have hkl : k < l.length := by rw [HL.out]; exact hlt
      have hki : (k : Int) < (n : Int) := by omega
      have hk2 : (k : Int) < 20 := by omega
      have hkz : (0 : Int) ≤ (k : Int) := by omega
      obtain ⟨ad0, rfl, _⟩ := HA.out (by rw [rcells_length]; omega)
      obtain ⟨f0, f1, f2, f3⟩ := (HA.out.bel (by rw [HGG.out]; exact HB.out)).four k hkl
      have hat : ((l[k].at_ : Nat) : Int) ≤ 4294967295 := by have := HW.out l[k] (List.getElem_mem hkl); omega
      have CF := Lib.hid (fun w => fitR_any l[k] m w hat hm0 hm1)
      have hol : out.length ≤ k := by rw [HOUT.out]; exact fit_len l m k
      obtain ⟨A, N, cap, rfl, hNc, hcm, hN, _⟩ := IsR.of_own HO.out
      have HN := Lib.hid hN
      rw [hN] at HO hol
      have hN20 : (N : Int) ≤ 20 := by omega
      have hNz : (0 : Int) ≤ (N : Int) := by omega
      have hNcap : (N : Int) ≤ (cap : Int) := by omega
      have hcap : (cap : Int) ≤ 9223372036854775807 := by unfold maxLen at hcm; omega
      clear hN hol hNc hcm
      obtain ⟨r, hrr⟩ : ∃ r, fitRl m l[k] = r := ⟨_, rfl⟩
      rw [hrr] at CF
      go_upto_region 5 with fail
      go_wp2_with fail
      refine (CF.out _).mono ?_
      rintro e1 w2 ⟨rfl, hb⟩
      replace HO := Lib.hid (own_bel HO.out hb)
      replace HB := Lib.hid (bel_step HGG.out HB.out hb)
      clear hb CF f0 f1 f2 f3
      go_upto_region 6 with fail
      obtain ⟨w3, hW⟩ : ∃ W, w2.alloc (.cells #[.int .u32 (r.at_ : Int), .int .i64 r.len, .int .i64 r.act, .int .i64 r.nxt] 47) = W := ⟨_, rfl⟩
      obtain ⟨G, hG⟩ : ∃ G, w2.heap.size = G := ⟨_, rfl⟩
      rw [hW, hG]
      have hb : Below w2.heap.size w2 w3 := by subst hW; exact (Below.refl _ _).alloc (Nat.le_refl _) _
      replace HO := Lib.hid (own_bel HO.out hb)
      replace HB := Lib.hid (bel_step HGG.out HB.out hb)
      have KG : Hid (Blk G #[.int .u32 (r.at_ : Int), .int .i64 r.len, .int .i64 r.act, .int .i64 r.nxt] 47 w3) := by subst hW hG; exact Blk.new _ _ _
      clear hb hW hG
      go_wp2
      go_loopw [8] (fun at_ wi => ∃ q : Nat, q ≤ N ∧ at_ = .int .i64 q ∧ Hid (∀ z ∈ out.take q, ltR z r) ∧ Hid (wi.ownsRow g 47 4 (.slice A N cap) N (rcells out)) ∧ Hid (Blk G #[.int .u32 (r.at_ : Int), .int .i64 r.len, .int .i64 r.act, .int .i64 r.nxt] 47 wi) ∧ Hid (Below g w wi)) (fun at_ _ => N - (intOf at_).toNat)
      case atStart => exact ⟨0, by omega, rfl, (fun z hz => by simp at hz), HO, KG, HB⟩
      case round =>
        clear HO HB KG
        obtain ⟨q, hqN, rfl, HQ, HO, KG, HB⟩ := hrel
        by_cases hq : q < N
        · have hql : q < out.length := by rw [HN.out]; exact hq
          have hqi : (q : Int) < (N : Int) := by omega
          have hqz : (0 : Int) ≤ (q : Int) := by omega
          have hd : decide ((q : Int) < (N : Int)) = true := decide_eq_true hqi
          have hd2 : decide (q < N) = true := decide_eq_true hq
          obtain ⟨ad, rfl, _⟩ := (IsR.of_own HO.out).has' (by rw [rcells_length, HN.out]; omega)
          have CC := Lib.hid (fun w => rcompr_any out[q].at_ r.at_ out[q].len out[q].act out[q].nxt r.len r.act r.nxt w)
          rw [show cmpI out[q].at_ out[q].len r.at_ r.len = cmpR out[q] r from rfl] at CC
          rcases cmpR_three out[q] r with hc | hc | hc
          · have HQ2 : Hid (∀ z ∈ out.take (q + 1), ltR z r) := split_more out r q hql HQ.out hc
            rw [hc] at CC
            clear hc HQ
            have HS : Hid (∀ wx, Below wr.heap.size wr wx → (wx.cell? (ad.add (q * 4)) = some (.int .u32 (out[q].at_ : Int)) ∧ wx.cell? ⟨(ad.add (q * 4)).block, (ad.add (q * 4)).off + 1, none⟩ = some (.int .i64 out[q].len) ∧ wx.cell? ⟨(ad.add (q * 4)).block, (ad.add (q * 4)).off + 2, none⟩ = some (.int .i64 out[q].act) ∧ wx.cell? ⟨(ad.add (q * 4)).block, (ad.add (q * 4)).off + 3, none⟩ = some (.int .i64 out[q].nxt)) ∧ (wx.cell? ⟨G, 0, none⟩ = some (.int .u32 (r.at_ : Int)) ∧ wx.cell? ⟨G, 1, none⟩ = some (.int .i64 r.len) ∧ wx.cell? ⟨G, 2, none⟩ = some (.int .i64 r.act) ∧ wx.cell? ⟨G, 3, none⟩ = some (.int .i64 r.nxt))) := fun wx hx => ⟨((IsR.of_own HO.out).has'.bel hx).four q hql, (KG.out.bel hx).cell 0 rfl, (KG.out.bel hx).cell 1 rfl, (KG.out.bel hx).cell 2 rfl, (KG.out.bel hx).cell 3 rfl⟩
            obtain ⟨f0, f1, f2, f3⟩ := HS.out wr (Below.refl _ _) |>.1
            obtain ⟨k0, k1, k2, k3⟩ := HS.out wr (Below.refl _ _) |>.2
            have HD := Lib.hid (Below.refl wr.heap.size wr).drew
            go_upto_region 7 with fail
            go_cut [39] (fun t wx => t = .bool (true) ∧ Hid (Below wr.heap.size wr wx))
            case first =>
              go_region_held3 (fun w' => (w'.cell? (ad.add (q * 4)) = some (.int .u32 (out[q].at_ : Int)) ∧ w'.cell? ⟨(ad.add (q * 4)).block, (ad.add (q * 4)).off + 1, none⟩ = some (.int .i64 out[q].len) ∧ w'.cell? ⟨(ad.add (q * 4)).block, (ad.add (q * 4)).off + 2, none⟩ = some (.int .i64 out[q].act) ∧ w'.cell? ⟨(ad.add (q * 4)).block, (ad.add (q * 4)).off + 3, none⟩ = some (.int .i64 out[q].nxt)) ∧ (w'.cell? ⟨G, 0, none⟩ = some (.int .u32 (r.at_ : Int)) ∧ w'.cell? ⟨G, 1, none⟩ = some (.int .i64 r.len) ∧ w'.cell? ⟨G, 2, none⟩ = some (.int .i64 r.act) ∧ w'.cell? ⟨G, 3, none⟩ = some (.int .i64 r.nxt)))
                (first | go_keep | exact HS.out _ D1.out)
                (first
                  | (go_simp; go_at_call 62; refine (CC.out _).mono ?_; rintro e w9 ⟨rfl, hb9⟩; have D1 := Lib.hid (HD.out.trans (hb9.mono HD.out.size)); clear hb9))
              all_goals
                go_wp2_with fail
                go_meet
                exact ⟨rfl, D1⟩
            case rest =>
              obtain ⟨rfl, HBc⟩ := hcut
              replace HO := Lib.hid (own_bel HO.out HBc.out)
              replace KG := Lib.hid (KG.out.bel HBc.out)
              replace HB := Lib.hid (bel_step HGG.out HB.out HBc.out)
              clear HBc HS HD f0 f1 f2 f3 k0 k1 k2 k3
              generalize wc = wj at *
              go_wp2_with fail
              go_roundw
              case rel => exact ⟨q + 1, by omega, by go_num, HQ2, HO, KG, HB⟩
              case measure => simp [intOf]; omega
          · have HI : Hid (ins out r = out) := split_same out r q hql HQ.out hc
            rw [hc] at CC
            clear hc HQ
            have HS : Hid (∀ wx, Below wr.heap.size wr wx → (wx.cell? (ad.add (q * 4)) = some (.int .u32 (out[q].at_ : Int)) ∧ wx.cell? ⟨(ad.add (q * 4)).block, (ad.add (q * 4)).off + 1, none⟩ = some (.int .i64 out[q].len) ∧ wx.cell? ⟨(ad.add (q * 4)).block, (ad.add (q * 4)).off + 2, none⟩ = some (.int .i64 out[q].act) ∧ wx.cell? ⟨(ad.add (q * 4)).block, (ad.add (q * 4)).off + 3, none⟩ = some (.int .i64 out[q].nxt)) ∧ (wx.cell? ⟨G, 0, none⟩ = some (.int .u32 (r.at_ : Int)) ∧ wx.cell? ⟨G, 1, none⟩ = some (.int .i64 r.len) ∧ wx.cell? ⟨G, 2, none⟩ = some (.int .i64 r.act) ∧ wx.cell? ⟨G, 3, none⟩ = some (.int .i64 r.nxt))) := fun wx hx => ⟨((IsR.of_own HO.out).has'.bel hx).four q hql, (KG.out.bel hx).cell 0 rfl, (KG.out.bel hx).cell 1 rfl, (KG.out.bel hx).cell 2 rfl, (KG.out.bel hx).cell 3 rfl⟩
            obtain ⟨f0, f1, f2, f3⟩ := HS.out wr (Below.refl _ _) |>.1
            obtain ⟨k0, k1, k2, k3⟩ := HS.out wr (Below.refl _ _) |>.2
            have HD := Lib.hid (Below.refl wr.heap.size wr).drew
            go_upto_region 7 with fail
            go_cut [39] (fun t wx => t = .bool (false) ∧ Hid (Below wr.heap.size wr wx))
            case first =>
              go_region_held3 (fun w' => (w'.cell? (ad.add (q * 4)) = some (.int .u32 (out[q].at_ : Int)) ∧ w'.cell? ⟨(ad.add (q * 4)).block, (ad.add (q * 4)).off + 1, none⟩ = some (.int .i64 out[q].len) ∧ w'.cell? ⟨(ad.add (q * 4)).block, (ad.add (q * 4)).off + 2, none⟩ = some (.int .i64 out[q].act) ∧ w'.cell? ⟨(ad.add (q * 4)).block, (ad.add (q * 4)).off + 3, none⟩ = some (.int .i64 out[q].nxt)) ∧ (w'.cell? ⟨G, 0, none⟩ = some (.int .u32 (r.at_ : Int)) ∧ w'.cell? ⟨G, 1, none⟩ = some (.int .i64 r.len) ∧ w'.cell? ⟨G, 2, none⟩ = some (.int .i64 r.act) ∧ w'.cell? ⟨G, 3, none⟩ = some (.int .i64 r.nxt)))
                (first | go_keep | exact HS.out _ D1.out)
                (first
                  | (go_simp; go_at_call 62; refine (CC.out _).mono ?_; rintro e w9 ⟨rfl, hb9⟩; have D1 := Lib.hid (HD.out.trans (hb9.mono HD.out.size)); clear hb9))
              all_goals
                go_wp2_with fail
                go_meet
                exact ⟨rfl, D1⟩
            case rest =>
              obtain ⟨rfl, HBc⟩ := hcut
              replace HO := Lib.hid (own_bel HO.out HBc.out)
              replace KG := Lib.hid (KG.out.bel HBc.out)
              replace HB := Lib.hid (bel_step HGG.out HB.out HBc.out)
              clear HBc HS HD f0 f1 f2 f3 k0 k1 k2 k3
              generalize wc = wj at *
              have HS : Hid (∀ wx, Below wj.heap.size wj wx → (wx.cell? (ad.add (q * 4)) = some (.int .u32 (out[q].at_ : Int)) ∧ wx.cell? ⟨(ad.add (q * 4)).block, (ad.add (q * 4)).off + 1, none⟩ = some (.int .i64 out[q].len) ∧ wx.cell? ⟨(ad.add (q * 4)).block, (ad.add (q * 4)).off + 2, none⟩ = some (.int .i64 out[q].act) ∧ wx.cell? ⟨(ad.add (q * 4)).block, (ad.add (q * 4)).off + 3, none⟩ = some (.int .i64 out[q].nxt)) ∧ (wx.cell? ⟨G, 0, none⟩ = some (.int .u32 (r.at_ : Int)) ∧ wx.cell? ⟨G, 1, none⟩ = some (.int .i64 r.len) ∧ wx.cell? ⟨G, 2, none⟩ = some (.int .i64 r.act) ∧ wx.cell? ⟨G, 3, none⟩ = some (.int .i64 r.nxt))) := fun wx hx => ⟨((IsR.of_own HO.out).has'.bel hx).four q hql, (KG.out.bel hx).cell 0 rfl, (KG.out.bel hx).cell 1 rfl, (KG.out.bel hx).cell 2 rfl, (KG.out.bel hx).cell 3 rfl⟩
              obtain ⟨f0, f1, f2, f3⟩ := HS.out wj (Below.refl _ _) |>.1
              obtain ⟨k0, k1, k2, k3⟩ := HS.out wj (Below.refl _ _) |>.2
              have HD := Lib.hid (Below.refl wj.heap.size wj).drew
              go_upto_region 9 with fail
              go_cut [54] (fun t wx => t = .bool (true) ∧ Hid (Below wj.heap.size wj wx))
              case first =>
                go_region_held3 (fun w' => (w'.cell? (ad.add (q * 4)) = some (.int .u32 (out[q].at_ : Int)) ∧ w'.cell? ⟨(ad.add (q * 4)).block, (ad.add (q * 4)).off + 1, none⟩ = some (.int .i64 out[q].len) ∧ w'.cell? ⟨(ad.add (q * 4)).block, (ad.add (q * 4)).off + 2, none⟩ = some (.int .i64 out[q].act) ∧ w'.cell? ⟨(ad.add (q * 4)).block, (ad.add (q * 4)).off + 3, none⟩ = some (.int .i64 out[q].nxt)) ∧ (w'.cell? ⟨G, 0, none⟩ = some (.int .u32 (r.at_ : Int)) ∧ w'.cell? ⟨G, 1, none⟩ = some (.int .i64 r.len) ∧ w'.cell? ⟨G, 2, none⟩ = some (.int .i64 r.act) ∧ w'.cell? ⟨G, 3, none⟩ = some (.int .i64 r.nxt)))
                  (first | go_keep | exact HS.out _ D1.out)
                  (first
                    | (go_simp; go_at_call 62; refine (CC.out _).mono ?_; rintro e w9 ⟨rfl, hb9⟩; have D1 := Lib.hid (HD.out.trans (hb9.mono HD.out.size)); clear hb9))
                all_goals
                  go_wp2_with fail
                  go_meet
                  exact ⟨rfl, D1⟩
              case rest =>
                obtain ⟨rfl, HBc⟩ := hcut
                replace HO := Lib.hid (own_bel HO.out HBc.out)
                replace KG := Lib.hid (KG.out.bel HBc.out)
                replace HB := Lib.hid (bel_step HGG.out HB.out HBc.out)
                clear HBc HS HD f0 f1 f2 f3 k0 k1 k2 k3
                generalize wc = wt at *
                clear CC KG
                go_wp2_with fail
                go_roundw
                case rel => exact ⟨k + 1, by omega, by omega, by go_num, out, by show _ = _; rw [fit_succ l m k hkl, ← HOUT.out, hrr, HI.out], by rw [HN.out]; exact HO, HB⟩
                case measure => simp [intOf]; omega
          · have HI : Hid (ins out r = out.take q ++ r :: out.drop q) := split_at out r q HQ.out (fun _ => hc)
            rw [hc] at CC
            clear hc HQ
            have HS : Hid (∀ wx, Below wr.heap.size wr wx → (wx.cell? (ad.add (q * 4)) = some (.int .u32 (out[q].at_ : Int)) ∧ wx.cell? ⟨(ad.add (q * 4)).block, (ad.add (q * 4)).off + 1, none⟩ = some (.int .i64 out[q].len) ∧ wx.cell? ⟨(ad.add (q * 4)).block, (ad.add (q * 4)).off + 2, none⟩ = some (.int .i64 out[q].act) ∧ wx.cell? ⟨(ad.add (q * 4)).block, (ad.add (q * 4)).off + 3, none⟩ = some (.int .i64 out[q].nxt)) ∧ (wx.cell? ⟨G, 0, none⟩ = some (.int .u32 (r.at_ : Int)) ∧ wx.cell? ⟨G, 1, none⟩ = some (.int .i64 r.len) ∧ wx.cell? ⟨G, 2, none⟩ = some (.int .i64 r.act) ∧ wx.cell? ⟨G, 3, none⟩ = some (.int .i64 r.nxt))) := fun wx hx => ⟨((IsR.of_own HO.out).has'.bel hx).four q hql, (KG.out.bel hx).cell 0 rfl, (KG.out.bel hx).cell 1 rfl, (KG.out.bel hx).cell 2 rfl, (KG.out.bel hx).cell 3 rfl⟩
            obtain ⟨f0, f1, f2, f3⟩ := HS.out wr (Below.refl _ _) |>.1
            obtain ⟨k0, k1, k2, k3⟩ := HS.out wr (Below.refl _ _) |>.2
            have HD := Lib.hid (Below.refl wr.heap.size wr).drew
            go_upto_region 7 with fail
            go_cut [39] (fun t wx => t = .bool (false) ∧ Hid (Below wr.heap.size wr wx))
            case first =>
              go_region_held3 (fun w' => (w'.cell? (ad.add (q * 4)) = some (.int .u32 (out[q].at_ : Int)) ∧ w'.cell? ⟨(ad.add (q * 4)).block, (ad.add (q * 4)).off + 1, none⟩ = some (.int .i64 out[q].len) ∧ w'.cell? ⟨(ad.add (q * 4)).block, (ad.add (q * 4)).off + 2, none⟩ = some (.int .i64 out[q].act) ∧ w'.cell? ⟨(ad.add (q * 4)).block, (ad.add (q * 4)).off + 3, none⟩ = some (.int .i64 out[q].nxt)) ∧ (w'.cell? ⟨G, 0, none⟩ = some (.int .u32 (r.at_ : Int)) ∧ w'.cell? ⟨G, 1, none⟩ = some (.int .i64 r.len) ∧ w'.cell? ⟨G, 2, none⟩ = some (.int .i64 r.act) ∧ w'.cell? ⟨G, 3, none⟩ = some (.int .i64 r.nxt)))
                (first | go_keep | exact HS.out _ D1.out)
                (first
                  | (go_simp; go_at_call 62; refine (CC.out _).mono ?_; rintro e w9 ⟨rfl, hb9⟩; have D1 := Lib.hid (HD.out.trans (hb9.mono HD.out.size)); clear hb9))
              all_goals
                go_wp2_with fail
                go_meet
                exact ⟨rfl, D1⟩
            case rest =>
              obtain ⟨rfl, HBc⟩ := hcut
              replace HO := Lib.hid (own_bel HO.out HBc.out)
              replace KG := Lib.hid (KG.out.bel HBc.out)
              replace HB := Lib.hid (bel_step HGG.out HB.out HBc.out)
              clear HBc HS HD f0 f1 f2 f3 k0 k1 k2 k3
              generalize wc = wj at *
              have HS : Hid (∀ wx, Below wj.heap.size wj wx → (wx.cell? (ad.add (q * 4)) = some (.int .u32 (out[q].at_ : Int)) ∧ wx.cell? ⟨(ad.add (q * 4)).block, (ad.add (q * 4)).off + 1, none⟩ = some (.int .i64 out[q].len) ∧ wx.cell? ⟨(ad.add (q * 4)).block, (ad.add (q * 4)).off + 2, none⟩ = some (.int .i64 out[q].act) ∧ wx.cell? ⟨(ad.add (q * 4)).block, (ad.add (q * 4)).off + 3, none⟩ = some (.int .i64 out[q].nxt)) ∧ (wx.cell? ⟨G, 0, none⟩ = some (.int .u32 (r.at_ : Int)) ∧ wx.cell? ⟨G, 1, none⟩ = some (.int .i64 r.len) ∧ wx.cell? ⟨G, 2, none⟩ = some (.int .i64 r.act) ∧ wx.cell? ⟨G, 3, none⟩ = some (.int .i64 r.nxt))) := fun wx hx => ⟨((IsR.of_own HO.out).has'.bel hx).four q hql, (KG.out.bel hx).cell 0 rfl, (KG.out.bel hx).cell 1 rfl, (KG.out.bel hx).cell 2 rfl, (KG.out.bel hx).cell 3 rfl⟩
              obtain ⟨f0, f1, f2, f3⟩ := HS.out wj (Below.refl _ _) |>.1
              obtain ⟨k0, k1, k2, k3⟩ := HS.out wj (Below.refl _ _) |>.2
              have HD := Lib.hid (Below.refl wj.heap.size wj).drew
              go_upto_region 9 with fail
              go_cut [54] (fun t wx => t = .bool (false) ∧ Hid (Below wj.heap.size wj wx))
              case first =>
                go_region_held3 (fun w' => (w'.cell? (ad.add (q * 4)) = some (.int .u32 (out[q].at_ : Int)) ∧ w'.cell? ⟨(ad.add (q * 4)).block, (ad.add (q * 4)).off + 1, none⟩ = some (.int .i64 out[q].len) ∧ w'.cell? ⟨(ad.add (q * 4)).block, (ad.add (q * 4)).off + 2, none⟩ = some (.int .i64 out[q].act) ∧ w'.cell? ⟨(ad.add (q * 4)).block, (ad.add (q * 4)).off + 3, none⟩ = some (.int .i64 out[q].nxt)) ∧ (w'.cell? ⟨G, 0, none⟩ = some (.int .u32 (r.at_ : Int)) ∧ w'.cell? ⟨G, 1, none⟩ = some (.int .i64 r.len) ∧ w'.cell? ⟨G, 2, none⟩ = some (.int .i64 r.act) ∧ w'.cell? ⟨G, 3, none⟩ = some (.int .i64 r.nxt)))
                  (first | go_keep | exact HS.out _ D1.out)
                  (first
                    | (go_simp; go_at_call 62; refine (CC.out _).mono ?_; rintro e w9 ⟨rfl, hb9⟩; have D1 := Lib.hid (HD.out.trans (hb9.mono HD.out.size)); clear hb9))
                all_goals
                  go_wp2_with fail
                  go_meet
                  exact ⟨rfl, D1⟩
              case rest =>
                obtain ⟨rfl, HBc⟩ := hcut
                replace HO := Lib.hid (own_bel HO.out HBc.out)
                replace KG := Lib.hid (KG.out.bel HBc.out)
                replace HB := Lib.hid (bel_step HGG.out HB.out HBc.out)
                clear HBc HS HD f0 f1 f2 f3 k0 k1 k2 k3
                generalize wc = wt at *
                clear CC
                obtain ⟨i0, hi0, hz0, hz1, hz2⟩ := info_parts HRI.out
                obtain ⟨k0, k1, k2, k3⟩ : wt.cell? ⟨G, 0, none⟩ = some (.int .u32 (r.at_ : Int)) ∧ wt.cell? ⟨G, 1, none⟩ = some (.int .i64 r.len) ∧ wt.cell? ⟨G, 2, none⟩ = some (.int .i64 r.act) ∧ wt.cell? ⟨G, 3, none⟩ = some (.int .i64 r.nxt) := ⟨KG.out.cell 0 rfl, KG.out.cell 1 rfl, KG.out.cell 2 rfl, KG.out.cell 3 rfl⟩
                have hqN : (q : Int) ≤ (N : Int) := by omega
                have hqz : (0 : Int) ≤ (q : Int) := by omega
                have hqc : (q : Int) ≤ (cap : Int) := by omega
                have ol : Hid ((wt.alloc (.cells #[.int .u32 (r.at_ : Int), .int .i64 r.len, .int .i64 r.act, .int .i64 r.nxt] 47)).ownsRow wt.heap.size 47 4 (.slice (some ⟨wt.heap.size, 0, none⟩) 1 1) 1 (rcell r)) := World.ownsRow_lit (e := 47) (size := 4) wt #[.int .u32 (r.at_ : Int), .int .i64 r.len, .int .i64 r.act, .int .i64 r.nxt] 1 (Nat.le_refl _) (by decide) rfl
                have HCU : Hid (Has wt (cutA (some ad) cap q 4) (rcells (out.drop q))) := (IsR.of_own HO.out).has'.cutR (by rw [HN.out]; omega)
                have HDL : Hid ((rcells (out.drop q)).length = (N - q) * 4) := by show _ = _; rw [rcells_length, List.length_drop, HN.out]
                have HSk : Hid (∀ wx, Below wt.heap.size wt wx → wx.cell? ⟨G, 0, none⟩ = some (.int .u32 (r.at_ : Int)) ∧ wx.cell? ⟨G, 1, none⟩ = some (.int .i64 r.len) ∧ wx.cell? ⟨G, 2, none⟩ = some (.int .i64 r.act) ∧ wx.cell? ⟨G, 3, none⟩ = some (.int .i64 r.nxt)) := fun wx hx => ⟨(KG.out.bel hx).cell 0 rfl, (KG.out.bel hx).cell 1 rfl, (KG.out.bel hx).cell 2 rfl, (KG.out.bel hx).cell 3 rfl⟩
                go_upto_region 10 with fail
                go_cut [9] (fun v wx => Hid (wx.ownsRow wt.heap.size 47 4 v (1 + (N - q)) (rcell r ++ rcells (out.drop q))) ∧ Hid (Below wt.heap.size wt wx))
                case first =>
                  go_region_held3 (fun w' => w'.cell? ⟨G, 0, none⟩ = some (.int .u32 (r.at_ : Int)) ∧ w'.cell? ⟨G, 1, none⟩ = some (.int .i64 r.len) ∧ w'.cell? ⟨G, 2, none⟩ = some (.int .i64 r.act) ∧ w'.cell? ⟨G, 3, none⟩ = some (.int .i64 r.nxt))
                    (first | go_keep | exact HSk.out _ (((Below.refl _ _).alloc (Nat.le_refl _) _).drew) | exact HSk.out _ ((((Below.refl _ _).alloc (Nat.le_refl _) _).drew).grown hgrow3 (by simp) (fun q hq => (ol.out.lt q hq).1)))
                    (first
                      | ((refine step_append4 _ (by rfl) (.tmp 56) (.tmp 59) _ (by rfl) wt.heap.size 47 i0 (.agg #[.int .u32 0, .int .i64 0, .int .i64 0, .int .i64 0]) 32 Tryd.underlying42 hi0 hz0 hz1 hz2 rfl (.slice (some ⟨wt.heap.size, 0, none⟩) 1 1) 1 (rcell r) (by rfl) ol.out.drew (cutA (some ad) cap q 4) (N - q) _ (rcells (out.drop q)) (by rfl) HDL.out (HCU.out.alloc _).drew (rcells_one _) (by unfold maxLen; omega) (by omega) (by simp) ?_; intro v3 w3 hown3 hgrow3 hat3)))
                  all_goals
                    go_wp2_with fail
                    go_meet
                    exact ⟨hown3, (((Below.refl wt.heap.size wt).alloc (Nat.le_refl _) _).drew).grown hgrow3 (by simp) (fun q hq => (ol.out.lt q hq).1)⟩
                case rest =>
                  obtain ⟨HV3, HBc⟩ := hcut
                  generalize wc = wu at *
                  have HBu := Lib.hid (bel_step HGG.out HB.out HBc.out)
                  have HAu : Hid (Has wu (some ad) (rcells (out.take q))) := by
                    have h := ((IsR.of_own HO.out).has'.bel HBc.out).take (q * 4)
                    rw [← rcells_take] at h
                    exact h
                  obtain ⟨A3, n3, c3, rfl, _, _, h3, hA3⟩ := IsR.of_own (l := r :: out.drop q) HV3.out
                  have hn3 : n3 = 1 + (N - q) := by rw [← h3, List.length_cons, List.length_drop, HN.out]; omega
                  subst hn3
                  have H3L : Hid ((rcells (r :: out.drop q)).length = (1 + (N - q)) * 4) := by show _ = _; rw [rcells_length, List.length_cons, List.length_drop, HN.out]; omega
                  have H3A := Lib.hid hA3
                  have HTL : Hid ((rcells (out.take q)).length = q * 4) := by show _ = _; rw [rcells_length, List.length_take, HN.out]; omega
                  have HOL : Hid ((wu.alloc (.cells #[] 47)).ownsRow wu.heap.size 47 4 (.slice (some ⟨wu.heap.size, 0, none⟩) 0 0) 0 []) := World.ownsRow_lit (e := 47) (size := 4) wu #[] 0 (Nat.le_refl _) (by decide) rfl
                  clear HV3 HBc h3 hA3 HSk HCU HDL ol HO HB KG k0 k1 k2 k3
                  go_wp2_with (first
                    | (at_builtin; refine wpList_append4 _ rfl (.tmp 61) (.tmp 64) _ rfl wu.heap.size 47 i0 (.agg #[.int .u32 0, .int .i64 0, .int .i64 0, .int .i64 0]) 32 Tryd.underlying42 hi0 hz0 hz1 hz2 rfl _ 0 [] rfl HOL.out _ q _ (rcells (out.take q)) rfl HTL.out (HAu.out.alloc _) (rcells_one _) (by unfold maxLen; omega) (by omega) (by simp only [World.size_alloc]; omega) ?_; intro v4 w4 hown4 hgrow4 _; have HO4 := Lib.hid hown4; have HG4 := Lib.hid hgrow4; clear hown4 hgrow4)
                    | (at_builtin; refine wpList_append4 _ rfl (.tmp 65) (.tmp 66) _ rfl wu.heap.size 47 i0 (.agg #[.int .u32 0, .int .i64 0, .int .i64 0, .int .i64 0]) 32 Tryd.underlying42 hi0 hz0 hz1 hz2 rfl _ (0 + q) _ rfl HO4.out _ (1 + (N - q)) _ (rcells (r :: out.drop q)) rfl H3L.out (H3A.out.bel (((Below.refl wu.heap.size wu).alloc (Nat.le_refl _) (.cells #[] 47)).grown HG4.out (by simp only [World.size_alloc]; omega) (fun q hq => (HOL.out.lt q hq).1))) (rcells_one _) (by unfold maxLen; omega) (by omega) (by have := HG4.out.size; simp only [World.size_alloc] at this; omega) ?_; intro v5 w5 hown5 hgrow5 _; have HO5 := Lib.hid hown5; have HG5 := Lib.hid hgrow5; clear hown5 hgrow5))
                  have hb4 : Below wu.heap.size wu w4 := ((Below.refl wu.heap.size wu).alloc (Nat.le_refl _) (.cells #[] 47)).grown HG4.out (by simp only [World.size_alloc]; omega) (fun q hq => (HOL.out.lt q hq).1)
                  have HB5 : Hid (Below wu.heap.size wu w5) := hb4.grown HG5.out hb4.size (fun q hq => (HO4.out.lt q hq).1)
                  have HOR : Hid (w5.ownsRow g 47 4 v5 (ins out r).length (rcells (ins out r))) := by
                    have h := HO5.out
                    rw [List.nil_append, ← rcells_append, ← HI.out] at h
                    exact own_len (own_base h (by have := HBu.out.size; rw [HGG.out] at this; exact this))
                  clear HO4 HG4 HO5 HG5 HOL HAu H3A H3L HTL hb4
                  go_wp2_with fail
                  go_roundw
                  case rel => exact ⟨k + 1, by omega, by omega, by go_num, ins out r, by show _ = _; rw [fit_succ l m k hkl, ← HOUT.out, hrr], HOR, bel_step HGG.out HBu.out HB5.out⟩
                  case measure => simp [intOf]; omega
        · have hd : decide ((q : Int) < (N : Int)) = false := decide_eq_false (by omega)
          have hd2 : decide (q < N) = false := decide_eq_false (by omega)
          have hge : (N : Int) ≤ (q : Int) := by omega
          have HI : Hid (ins out r = out.take q ++ r :: out.drop q) := split_at out r q HQ.out (fun h => absurd h (by rw [HN.out]; omega))
          clear hq HQ
          go_upto_region 7 with fail
          go_cut [39] (fun t wx => t = .bool false ∧ Hid (wx.ownsRow g 47 4 (.slice A N cap) N (rcells out)) ∧ Hid (Blk G #[.int .u32 (r.at_ : Int), .int .i64 r.len, .int .i64 r.act, .int .i64 r.nxt] 47 wx) ∧ Hid (Below g w wx))
          case first =>
            go_quiet (fail)
            go_wp2_with fail
            go_meet
            exact ⟨rfl, HO, KG, drewN_below HB.out _⟩
          case rest =>
            obtain ⟨rfl, HO2, KG2, HB2⟩ := hcut
            clear HO KG HB
            go_upto_region 9 with fail
            go_cut [54] (fun t wx => t = .bool false ∧ Hid (wx.ownsRow g 47 4 (.slice A N cap) N (rcells out)) ∧ Hid (Blk G #[.int .u32 (r.at_ : Int), .int .i64 r.len, .int .i64 r.act, .int .i64 r.nxt] 47 wx) ∧ Hid (Below g w wx))
            case first =>
              go_quiet (fail)
              go_wp2_with fail
              go_meet
              exact ⟨rfl, HO2, KG2, drewN_below HB2.out _⟩
            case rest =>
              obtain ⟨rfl, HO, KG, HB⟩ := hcut
              clear HO2 KG2 HB2
              generalize wc = wt at *
              obtain ⟨i0, hi0, hz0, hz1, hz2⟩ := info_parts HRI.out
              obtain ⟨k0, k1, k2, k3⟩ : wt.cell? ⟨G, 0, none⟩ = some (.int .u32 (r.at_ : Int)) ∧ wt.cell? ⟨G, 1, none⟩ = some (.int .i64 r.len) ∧ wt.cell? ⟨G, 2, none⟩ = some (.int .i64 r.act) ∧ wt.cell? ⟨G, 3, none⟩ = some (.int .i64 r.nxt) := ⟨KG.out.cell 0 rfl, KG.out.cell 1 rfl, KG.out.cell 2 rfl, KG.out.cell 3 rfl⟩
              have hqN : (q : Int) ≤ (N : Int) := by omega
              have hqz : (0 : Int) ≤ (q : Int) := by omega
              have hqc : (q : Int) ≤ (cap : Int) := by omega
              have ol : Hid ((wt.alloc (.cells #[.int .u32 (r.at_ : Int), .int .i64 r.len, .int .i64 r.act, .int .i64 r.nxt] 47)).ownsRow wt.heap.size 47 4 (.slice (some ⟨wt.heap.size, 0, none⟩) 1 1) 1 (rcell r)) := World.ownsRow_lit (e := 47) (size := 4) wt #[.int .u32 (r.at_ : Int), .int .i64 r.len, .int .i64 r.act, .int .i64 r.nxt] 1 (Nat.le_refl _) (by decide) rfl
              have HCU : Hid (Has wt (cutA A cap q 4) (rcells (out.drop q))) := (IsR.of_own HO.out).has'.cutR (by rw [HN.out]; omega)
              have HDL : Hid ((rcells (out.drop q)).length = (N - q) * 4) := by show _ = _; rw [rcells_length, List.length_drop, HN.out]
              have HSk : Hid (∀ wx, Below wt.heap.size wt wx → wx.cell? ⟨G, 0, none⟩ = some (.int .u32 (r.at_ : Int)) ∧ wx.cell? ⟨G, 1, none⟩ = some (.int .i64 r.len) ∧ wx.cell? ⟨G, 2, none⟩ = some (.int .i64 r.act) ∧ wx.cell? ⟨G, 3, none⟩ = some (.int .i64 r.nxt)) := fun wx hx => ⟨(KG.out.bel hx).cell 0 rfl, (KG.out.bel hx).cell 1 rfl, (KG.out.bel hx).cell 2 rfl, (KG.out.bel hx).cell 3 rfl⟩
              go_upto_region 10 with fail
              go_cut [9] (fun v wx => Hid (wx.ownsRow wt.heap.size 47 4 v (1 + (N - q)) (rcell r ++ rcells (out.drop q))) ∧ Hid (Below wt.heap.size wt wx))
              case first =>
                go_region_held3 (fun w' => w'.cell? ⟨G, 0, none⟩ = some (.int .u32 (r.at_ : Int)) ∧ w'.cell? ⟨G, 1, none⟩ = some (.int .i64 r.len) ∧ w'.cell? ⟨G, 2, none⟩ = some (.int .i64 r.act) ∧ w'.cell? ⟨G, 3, none⟩ = some (.int .i64 r.nxt))
                  (first | go_keep | exact HSk.out _ (((Below.refl _ _).alloc (Nat.le_refl _) _).drew) | exact HSk.out _ ((((Below.refl _ _).alloc (Nat.le_refl _) _).drew).grown hgrow3 (by simp) (fun q hq => (ol.out.lt q hq).1)))
                  (first
                    | ((refine step_append4 _ (by rfl) (.tmp 56) (.tmp 59) _ (by rfl) wt.heap.size 47 i0 (.agg #[.int .u32 0, .int .i64 0, .int .i64 0, .int .i64 0]) 32 Tryd.underlying42 hi0 hz0 hz1 hz2 rfl (.slice (some ⟨wt.heap.size, 0, none⟩) 1 1) 1 (rcell r) (by rfl) ol.out.drew (cutA A cap q 4) (N - q) _ (rcells (out.drop q)) (by rfl) HDL.out (HCU.out.alloc _).drew (rcells_one _) (by unfold maxLen; omega) (by omega) (by simp) ?_; intro v3 w3 hown3 hgrow3 hat3)))
                all_goals
                  go_wp2_with fail
                  go_meet
                  exact ⟨hown3, (((Below.refl wt.heap.size wt).alloc (Nat.le_refl _) _).drew).grown hgrow3 (by simp) (fun q hq => (ol.out.lt q hq).1)⟩
              case rest =>
                obtain ⟨HV3, HBc⟩ := hcut
                generalize wc = wu at *
                have HBu := Lib.hid (bel_step HGG.out HB.out HBc.out)
                have HAu : Hid (Has wu A (rcells (out.take q))) := by
                  have h := ((IsR.of_own HO.out).has'.bel HBc.out).take (q * 4)
                  rw [← rcells_take] at h
                  exact h
                obtain ⟨A3, n3, c3, rfl, _, _, h3, hA3⟩ := IsR.of_own (l := r :: out.drop q) HV3.out
                have hn3 : n3 = 1 + (N - q) := by rw [← h3, List.length_cons, List.length_drop, HN.out]; omega
                subst hn3
                have H3L : Hid ((rcells (r :: out.drop q)).length = (1 + (N - q)) * 4) := by show _ = _; rw [rcells_length, List.length_cons, List.length_drop, HN.out]; omega
                have H3A := Lib.hid hA3
                have HTL : Hid ((rcells (out.take q)).length = q * 4) := by show _ = _; rw [rcells_length, List.length_take, HN.out]; omega
                have HOL : Hid ((wu.alloc (.cells #[] 47)).ownsRow wu.heap.size 47 4 (.slice (some ⟨wu.heap.size, 0, none⟩) 0 0) 0 []) := World.ownsRow_lit (e := 47) (size := 4) wu #[] 0 (Nat.le_refl _) (by decide) rfl
                clear HV3 HBc h3 hA3 HSk HCU HDL ol HO HB KG k0 k1 k2 k3
                go_wp2_with (first
                  | (at_builtin; refine wpList_append4 _ rfl (.tmp 61) (.tmp 64) _ rfl wu.heap.size 47 i0 (.agg #[.int .u32 0, .int .i64 0, .int .i64 0, .int .i64 0]) 32 Tryd.underlying42 hi0 hz0 hz1 hz2 rfl _ 0 [] rfl HOL.out _ q _ (rcells (out.take q)) rfl HTL.out (HAu.out.alloc _) (rcells_one _) (by unfold maxLen; omega) (by omega) (by simp only [World.size_alloc]; omega) ?_; intro v4 w4 hown4 hgrow4 _; have HO4 := Lib.hid hown4; have HG4 := Lib.hid hgrow4; clear hown4 hgrow4)
                  | (at_builtin; refine wpList_append4 _ rfl (.tmp 65) (.tmp 66) _ rfl wu.heap.size 47 i0 (.agg #[.int .u32 0, .int .i64 0, .int .i64 0, .int .i64 0]) 32 Tryd.underlying42 hi0 hz0 hz1 hz2 rfl _ (0 + q) _ rfl HO4.out _ (1 + (N - q)) _ (rcells (r :: out.drop q)) rfl H3L.out (H3A.out.bel (((Below.refl wu.heap.size wu).alloc (Nat.le_refl _) (.cells #[] 47)).grown HG4.out (by simp only [World.size_alloc]; omega) (fun q hq => (HOL.out.lt q hq).1))) (rcells_one _) (by unfold maxLen; omega) (by omega) (by have := HG4.out.size; simp only [World.size_alloc] at this; omega) ?_; intro v5 w5 hown5 hgrow5 _; have HO5 := Lib.hid hown5; have HG5 := Lib.hid hgrow5; clear hown5 hgrow5))
                have hb4 : Below wu.heap.size wu w4 := ((Below.refl wu.heap.size wu).alloc (Nat.le_refl _) (.cells #[] 47)).grown HG4.out (by simp only [World.size_alloc]; omega) (fun q hq => (HOL.out.lt q hq).1)
                have HB5 : Hid (Below wu.heap.size wu w5) := hb4.grown HG5.out hb4.size (fun q hq => (HO4.out.lt q hq).1)
                have HOR : Hid (w5.ownsRow g 47 4 v5 (ins out r).length (rcells (ins out r))) := by
                  have h := HO5.out
                  rw [List.nil_append, ← rcells_append, ← HI.out] at h
                  exact own_len (own_base h (by have := HBu.out.size; rw [HGG.out] at this; exact this))
                clear HO4 HG4 HO5 HG5 HOL HAu H3A H3L HTL hb4
                go_wp2_with fail
                go_roundw
                case rel => exact ⟨k + 1, by omega, by omega, by go_num, ins out r, by show _ = _; rw [fit_succ l m k hkl, ← HOUT.out, hrr], HOR, bel_step HGG.out HBu.out HB5.out⟩
                case measure => simp [intOf]; omega
    · have hF : l.take k = l.take 20 := by
        by_cases h1 : k < n
        · rw [show k = 20 by omega]
        · rw [List.take_of_length_le (by rw [HL.out]; omega), List.take_of_length_le (by rw [HL.out]; omega)]
      have HE : Hid (fitT m l = out) := by
        show _ = _
        rw [HOUT.out, hF]
        rfl
      have hor : (n : Int) ≤ (k : Int) ∨ (20 : Int) ≤ (k : Int) := by omega
      clear HOUT hF hend
      by_cases hkn2 : (k : Int) < (n : Int)
      · have h20 : (20 : Int) ≤ (k : Int) := by omega
        clear hor
        go_wp2_with fail
        go_ret
        exact ⟨_, rfl, by rw [HE.out, HGG.out]; exact HO.out, by rw [HGG.out]; exact HB.out⟩
      · clear hor
        go_wp2_with fail
        go_ret
        exact ⟨_, rfl, by rw [HE.out, HGG.out]; exact HO.out, by rw [HGG.out]; exact HB.out⟩
end Go.Proofs.YtohggpaffmcfoaaDoor
