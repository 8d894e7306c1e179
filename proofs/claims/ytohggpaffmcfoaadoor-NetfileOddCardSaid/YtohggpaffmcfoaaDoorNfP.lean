/- Contracts of netfile's Put: rules, nodes, networks as bytes. -/
import Derived.Test.YtohggpaffmcfoaaDoorMath
import Derived.Test.YtohggpaffmcfoaaDoorNetKit
import Derived.Test.YtohggpaffmcfoaaDoorLow
import Derived.Test.YtohggpaffmcfoaaDoorRulP
import Derived.Test.YtohggpaffmcfoaaDoorMid
import Derived.Test.YtohggpaffmcfoaaDoorNetM
import Derived.Test.YtohggpaffmcfoaaDoorRef10b
import Derived.Test.YtohggpaffmcfoaaDoorOwnR
namespace Go.Proofs.YtohggpaffmcfoaaDoor
open Go.RowKit
set_option linter.unusedVariables false
set_option maxRecDepth 100000
set_option linter.unusedSimpArgs false

theorem gput_own (L : Nat) (w : World) (h : L ≤ 268435455) : Calls Tryd.prog 21 #[.int .i64 (L : Int)] w fun e w' => ∃ v, e = .returned (.tuple #[v, .int .i64 0]) ∧ w'.ownsRow w.heap.size 5 1 v (gsize L) (vals (grp L)) ∧ Below w.heap.size w w' :=
  (gput_ok (L : Int) w (by omega) (by omega)).mono fun e w' ⟨h1, h2⟩ => ⟨_, h1, by
    subst h2
    rw [Int.toNat_natCast]
    exact World.ownsRow_lit (e := 5) (size := 1) w (vals (grp L)).toArray (gsize L) (Nat.le_refl _) (by have := gsize_pos L; unfold maxLen; omega) (by simp [vals_length, grp_length]), by
    subst h2
    exact (Below.refl _ _).alloc (Nat.le_refl _) _⟩
theorem ruleB (r : Rl) (w : World) (h : FitL r) : Calls Tryd.prog 22 #[.agg #[.int .u32 (r.at_ : Int), .int .i64 r.len, .int .i64 r.act, .int .i64 r.nxt]] w fun e w' => ∃ v, e = .returned (.tuple #[v, .int .i64 0]) ∧ IsB w' v (rbL r) ∧ Below w.heap.size w w' := by
  have h1 := h.2.1
  have h2 := h.2.2.1
  have h3 := h.2.2.2
  exact (rulput_ok r.at_ r.len r.act r.nxt w (by have := h.1; omega) (by omega) (by omega) (by omega)).mono fun e w' ⟨v, a, b, c⟩ => ⟨v, a, IsB.of_own b, c⟩
theorem sectC (l : List Rl) (v : Value) (w : World) (hv : IsB w v (nodeB l)) (hl : l.length ≤ 4096) : Calls Tryd.prog 23 #[.int .u8 84, v] w fun e w' => ∃ v', e = .returned (.tuple #[v', .int .i64 0]) ∧ IsB w' v' (sectB l) ∧ Below w.heap.size w w' := by
  have h1 := nodeB_le hl
  have h := section_any 84 v (nodeB l) w hv (by omega)
  have e : sectF 84 (nodeB l) = (sectB l, 0) := by unfold sectF; rw [if_pos h1]; rfl
  rw [e] at h
  exact h
theorem nfrule_any (r : Rl) (w : World) (h : FitL r) : Calls Tryd.prog 45 #[.agg #[.int .u32 (r.at_ : Int), .int .i64 r.len, .int .i64 r.act, .int .i64 r.nxt]] w fun e w' => ∃ v, e = .returned v ∧ IsB w' v (rbL r) ∧ Below w.heap.size w w' := by
  have C := Lib.hid (fun w => ruleB r w h)
  have hb0 : Below w.heap.size w (w.alloc (.cells #[.int .u32 (r.at_ : Int), .int .i64 r.len, .int .i64 r.act, .int .i64 r.nxt] 47)) := (Below.refl _ _).alloc (Nat.le_refl _) _
  have HB0 := Lib.hid hb0
  have HK := Blk.new w #[.int .u32 (r.at_ : Int), .int .i64 r.len, .int .i64 r.act, .int .i64 r.nxt] 47
  have f0 := HK.cell 0 rfl
  have f1 := HK.cell 1 rfl
  have f2 := HK.cell 2 rfl
  have f3 := HK.cell 3 rfl
  clear h hb0 HK
  go_enter Tryd.func45, Tryd.ntmps45
  go_wp2_with fail
  refine (C.out _).mono ?_
  rintro e1 w1 ⟨v1, rfl, hv1, hb1⟩
  have HV := Lib.hid hv1
  have HB := Lib.hid (HB0.out.trans (hb1.mono HB0.out.size))
  clear hv1 hb1 f0 f1 f2 f3
  go_wp2_with fail
  go_ret
  exact ⟨_, rfl, HV.out, HB.out⟩
set_option maxHeartbeats 4000000 in
theorem nfrules_any (v : Value) (l : List Rl) (w : World) (hv : IsR w v l) (hl : l.length ≤ 4096) (hf : ∀ r ∈ l, FitL r) :
    Calls Tryd.prog 44 #[v, .func (.func 45) #[] #[]] w fun e w' => ∃ u, e = .returned u ∧ IsB w' u (nodeB l) ∧ Below w.heap.size w w' := by
  obtain ⟨A, c, rfl, hc, hm, hr⟩ := hv.slice
  obtain ⟨L, hL⟩ : ∃ L, l.length = L := ⟨_, rfl⟩
  rw [hL] at hc hl hv ⊢
  have HLL := Lib.hid hL
  have HIR := Lib.hid hv
  have HF := Lib.hid hf
  have HI := Lib.hid byte_info
  have hLb : (L : Int) ≤ 4096 := by omega
  obtain ⟨g, hg⟩ : ∃ g, w.heap.size = g := ⟨_, rfl⟩
  have HG := Lib.hid hg
  clear hv hL hr hf hl hc hm hg
  go_enter Tryd.func44, Tryd.ntmps44
  go_wp2_with fail
  refine (gput_own L w (by omega)).mono ?_
  rintro e1 w1 ⟨v1, rfl, ho1, hb1⟩
  rw [HG.out] at ho1 hb1
  have HO1 : Hid (∃ m, w1.ownsRow g 5 1 v1 m (vals (grp L ++ flatB (l.take 0)))) := by
    refine ⟨gsize L, ?_⟩
    rw [List.take_zero]
    show w1.ownsRow _ _ _ _ _ (vals (grp L ++ []))
    rw [List.append_nil]
    exact ho1
  have HB1 := Lib.hid hb1
  clear ho1 hb1
  go_wp2_with fail
  go_loopw [5, 17] (fun y j wr => ∃ t : Nat, t ≤ L ∧ j = .int .i64 t ∧ Hid (∃ m, wr.ownsRow g 5 1 y m (vals (grp L ++ flatB (l.take t)))) ∧ Hid (Below g w wr)) (fun _ j _ => L - (intOf j).toNat)
  case atStart => exact ⟨0, by omega, rfl, HO1, HB1⟩
  case round =>
    clear HO1 HB1
    obtain ⟨t, ht, rfl, HO, HB⟩ := hrel
    generalize wr = wi at *
    by_cases hlt : t < L
    · have htl : t < l.length := by rw [HLL.out]; exact hlt
      have hti : (t : Int) < (L : Int) := by omega
      have htz : (0 : Int) ≤ (t : Int) := by omega
      have HBW : Hid (Below w.heap.size w wi) := by show Below _ _ _; rw [HG.out]; exact HB.out
      obtain ⟨ad, rfl, _⟩ := HIR.out.has' (by rw [rcells_length]; omega)
      obtain ⟨f0, f1, f2, f3⟩ := (HIR.out.has'.bel HBW.out).four t htl
      have CR := Lib.hid (fun w => nfrule_any l[t] w (HF.out _ (List.getElem_mem htl)))
      have HFS := Lib.hid (flatB_take_succ l t htl)
      generalize l[t] = r at *
      obtain ⟨m3, ho2⟩ := HO.out
      have hm3 : m3 = gsize L + 8 * t := by
        have h := ho2.1
        rw [vals_length, List.length_append, grp_length, flatB_length, List.length_take, Nat.min_eq_left (by omega)] at h
        omega
      have hg4 := (gsize_pos L).2
      have hm3b : (m3 : Int) ≤ 40000 := by omega
      have HO2 := Lib.hid ho2
      clear HO ho2 hm3 hg4
      go_upto_region 5 with fail
      obtain ⟨G, hG⟩ : ∃ G, wi.heap.size = G := ⟨_, rfl⟩
      have HX : Hid (Blk G #[.int .u32 (r.at_ : Int), .int .i64 r.len, .int .i64 r.act, .int .i64 r.nxt] 47 (wi.alloc (.cells #[.int .u32 (r.at_ : Int), .int .i64 r.len, .int .i64 r.act, .int .i64 r.nxt] 47))) := by
        subst hG
        exact Blk.new _ _ _
      have hbx : Below wi.heap.size wi (wi.alloc (.cells #[.int .u32 (r.at_ : Int), .int .i64 r.len, .int .i64 r.act, .int .i64 r.nxt] 47)) := (Below.refl _ _).alloc (Nat.le_refl _) _
      have HB2 := Lib.hid (HB.out.trans (hbx.mono (by have h1 := HB.out.size; have h2 := HG.out; omega)))
      have HO3 := Lib.hid (own_bel HO2.out hbx)
      rw [hG]
      clear hbx HO2 HBW f0 f1 f2 f3 HB hG
      generalize wi.alloc (.cells #[.int .u32 (r.at_ : Int), .int .i64 r.len, .int .i64 r.act, .int .i64 r.nxt] 47) = w2 at *
      have f0 := HX.out.cell 0 rfl
      have f1 := HX.out.cell 1 rfl
      have f2 := HX.out.cell 2 rfl
      have f3 := HX.out.cell 3 rfl
      go_wp2_with fail
      refine (CR.out _).mono ?_
      rintro e3 w3 ⟨v3, rfl, hv3, hb3⟩
      obtain ⟨A3, n3, c3, rfl, hnc3, hcm3, hl3, hA3⟩ := hv3
      rw [rbL_length] at hl3
      subst hl3
      have HO4 := Lib.hid (own_bel HO3.out hb3)
      have HA3 := Lib.hid hA3
      have HB3 : Hid (Below g w w3) := HB2.out.trans (hb3.mono (by have h1 := HB2.out.size; have h2 := HG.out; omega))
      have hsz3 : g ≤ w3.heap.size := by have h1 := HB3.out.size; have h2 := HG.out; omega
      obtain ⟨i0, hi0, hz0, hz1, hz2⟩ := info_parts HI.out
      clear hA3 hb3 CR HO3 HB2 f0 f1 f2 f3 HX
      go_wp2_with (at_builtin; refine wpList_append_has _ rfl (.tmp 21) (.tmp 24) _ rfl g 5 i0 (.int .u8 0) 1 Tryd.underlying25 hi0 hz0 hz1 hz2 rfl u5 m3 _ rfl HO4.out A3 8 c3 (vals (rbL r)) rfl (by rw [vals_length, rbL_length]) HA3.out (vals_one _) (by unfold maxLen; omega) (by omega) hsz3 ?_; intro v4 w4 hown4 hgrow4 _; have HO5 := Lib.hid hown4; have HG5 := Lib.hid hgrow4; clear hown4 hgrow4)
      have hb4 : Below g w3 w4 := (Below.refl g w3).grown HG5.out hsz3 (own_from HO4.out)
      have HB4 := Lib.hid (HB3.out.trans hb4)
      have HO6 : Hid (∃ m, w4.ownsRow g 5 1 v4 m (vals (grp L ++ flatB (l.take (t + 1))))) := by
        refine ⟨m3 + 8, ?_⟩
        rw [HFS.out, ← List.append_assoc, vals_append]
        exact HO5.out
      clear hb4 HO4 HG5 HO5 HA3 HB3
      go_roundw
      case rel => exact ⟨t + 1, by omega, by go_num, HO6, HB4⟩
      case measure => simp [intOf]; omega
    · obtain rfl : t = L := by omega
      have HIN : Hid (IsB wi u5 (nodeB l)) := by
        obtain ⟨m3, h⟩ := HO.out
        rw [List.take_of_length_le (by rw [HLL.out]; exact Nat.le_refl _)] at h
        have := IsB.of_own h
        show IsB _ _ _
        unfold nodeB
        rw [HLL.out]
        exact this
      go_wp2_with fail
      go_ret
      exact ⟨_, rfl, HIN.out, by rw [HG.out]; exact HB.out⟩
theorem nfnode_any (v : Value) (l : List Rl) (w : World) (hv : IsR w v l) (hl : l.length ≤ 4096) (hf : ∀ r ∈ l, FitL r) :
    Calls Tryd.prog 25 #[v] w fun e w' => ∃ u, e = .returned u ∧ IsB w' u (sectB l) ∧ Below w.heap.size w w' := by
  have CR := Lib.hid (nfrules_any v l w hv hl hf)
  have HL := Lib.hid hl
  clear hv hf hl
  go_enter Tryd.func25, Tryd.ntmps25
  go_wp2_with fail
  refine CR.out.mono ?_
  rintro e1 w1 ⟨v1, rfl, hv1, hb1⟩
  have CS := Lib.hid (sectC l v1 w1 hv1 HL.out)
  have HB1 := Lib.hid hb1
  clear hv1 hb1
  go_wp2_with fail
  refine CS.out.mono ?_
  rintro e2 w2 ⟨v2, rfl, hv2, hb2⟩
  have HV2 := Lib.hid hv2
  have HB2 := Lib.hid (HB1.out.trans (hb2.mono HB1.out.size))
  clear hv2 hb2
  go_wp2_with fail
  go_ret
  exact ⟨_, rfl, HV2.out, HB2.out⟩
set_option maxHeartbeats 4000000 in
theorem nfnodes_any (v : Value) (N : Nt) (w : World) (hv : IsS w v N) (hN : N.length ≤ 256) (hs : szN N ≤ 4096) (hf : FitT N) :
    Calls Tryd.prog 24 #[v, .func (.func 25) #[] #[]] w fun e w' => ∃ u, e = .returned u ∧ IsB w' u (bodyB N) ∧ Below w.heap.size w w' := by
  obtain ⟨A, c, hv', hc, hm, hS⟩ := hv.mk.slice
  injection hv' with hv'
  simp at hv'
  subst hv'
  obtain ⟨n, hn⟩ : ∃ n, N.length = n := ⟨_, rfl⟩
  rw [hn] at hc hS hN ⊢
  have HNT := Lib.hid hn
  have HS := Lib.hid hS
  have HF := Lib.hid hf
  have HST := Lib.hid hs
  have HI := Lib.hid byte_info
  have hnb : (n : Int) ≤ 256 := by omega
  obtain ⟨h, hh⟩ : ∃ h, w.heap.size = h := ⟨_, rfl⟩
  have HH := Lib.hid hh
  clear hv hn hS hf hs hN hc hm hh
  go_enter Tryd.func24, Tryd.ntmps24
  go_wp2_with fail
  refine (gput_own n w (by omega)).mono ?_
  rintro e1 x1 ⟨v1, rfl, ho1, hb1⟩
  rw [HH.out] at ho1 hb1
  have HO1 : Hid (∃ m, x1.ownsRow h 5 1 v1 m (vals (grp n ++ sectsB (N.take 0)))) := by
    refine ⟨gsize n, ?_⟩
    rw [List.take_zero]
    show x1.ownsRow _ _ _ _ _ (vals (grp n ++ []))
    rw [List.append_nil]
    exact ho1
  have HB1 := Lib.hid hb1
  clear ho1 hb1
  go_wp2_with fail
  go_loopw [5, 17] (fun x i wr => ∃ k : Nat, k ≤ n ∧ i = .int .i64 k ∧ Hid (∃ m, wr.ownsRow h 5 1 x m (vals (grp n ++ sectsB (N.take k)))) ∧ Hid (Below h w wr)) (fun _ i _ => n - (intOf i).toNat)
  case atStart => exact ⟨0, by omega, rfl, HO1, HB1⟩
  case round =>
    clear HO1 HB1
    obtain ⟨k, hk, rfl, HO, HB⟩ := hrel
    generalize wr = wo at *
    have HBX : Hid (Below w.heap.size w wo) := by show Below _ _ _; rw [HH.out]; exact HB.out
    by_cases hlt : k < n
    · have hkl : k < N.length := by rw [HNT.out]; exact hlt
      have hki : (k : Int) < (n : Int) := by omega
      have hkz : (0 : Int) ≤ (k : Int) := by omega
      obtain ⟨ad, Bk, m, rfl, hlm, hmm, hr, hcl⟩ := HS.out.all k hkl
      have q1 := hcl wo HBX.out
      have hfl := HF.out N[k] (List.getElem_mem hkl)
      have CS := Lib.hid (nfnode_any _ N[k] wo (hr.bel HBX.out) hfl.1 hfl.2)
      have HSL := Lib.hid (sectB_le N[k])
      have HFS := Lib.hid (sectsB_take_succ N k hkl)
      have hl4 : N[k].length ≤ 4096 := hfl.1
      have HL4 := Lib.hid hl4
      obtain ⟨m1, ho⟩ := HO.out
      have hm1 : (m1 : Int) ≤ 100000 := by
        have h := ho.1
        rw [vals_length, List.length_append, grp_length] at h
        have h1 := sectsB_le (N.take k)
        have h2 := szN_take_le N k
        have h3 := HST.out
        have h4 := gsize_pos n
        have h5 : (N.take k).length ≤ 256 := by rw [List.length_take, HNT.out]; omega
        omega
      have HO1 := Lib.hid ho
      generalize N[k] = ln at *
      generalize ln.length = L at *
      clear hr hcl hfl ho HO
      go_wp2_with fail
      refine CS.out.mono ?_
      rintro e5 w5 ⟨v5, rfl, hv5, hb5⟩
      obtain ⟨A5, n5, c5, rfl, hnc5, hcm5, hl5, hA5⟩ := hv5
      have hn5 : (n5 : Int) ≤ 40000 := by
        have h := HSL.out
        rw [hl5] at h
        have h2 := HL4.out
        omega
      have HL5 := Lib.hid hl5
      have HO5 := Lib.hid (own_bel HO1.out hb5)
      have HA5 := Lib.hid hA5
      have HB5 : Hid (Below w.heap.size w w5) := HBX.out.trans (hb5.mono HBX.out.size)
      have hsz5 : h ≤ w5.heap.size := by have h1 := HB5.out.size; rw [HH.out] at h1; exact h1
      obtain ⟨i0, hi0, hz0, hz1, hz2⟩ := info_parts HI.out
      clear hA5 hb5 hl5 CS HO1 HBX HSL q1
      go_wp2_with (at_builtin; refine wpList_append_has _ rfl (.tmp 21) (.tmp 24) _ rfl h 5 i0 (.int .u8 0) 1 Tryd.underlying25 hi0 hz0 hz1 hz2 rfl u5 m1 _ rfl HO5.out A5 n5 c5 (vals (sectB ln)) rfl (by rw [vals_length, HL5.out]) HA5.out (vals_one _) (by unfold maxLen; omega) (by omega) hsz5 ?_; intro v6 w6 hown6 hgrow6 _; have HO6 := Lib.hid hown6; have HG6 := Lib.hid hgrow6; clear hown6 hgrow6)
      have hb6 : Below h w5 w6 := (Below.refl h w5).grown HG6.out hsz5 (own_from HO5.out)
      have HB6 : Hid (Below h w w6) := by
        have h1 := HB5.out
        rw [HH.out] at h1
        exact h1.trans hb6
      have HO7 : Hid (∃ m, w6.ownsRow h 5 1 v6 m (vals (grp n ++ sectsB (N.take (k + 1))))) := by
        refine ⟨m1 + n5, ?_⟩
        rw [HFS.out, ← List.append_assoc, vals_append]
        exact HO6.out
      clear hb6 HO6 HG6 HO5 HA5 HB5
      go_roundw
      case rel => exact ⟨k + 1, by omega, by go_num, HO7, HB6⟩
      case measure => simp [intOf]; omega
    · obtain rfl : k = n := by omega
      have HZ : Hid (IsB wo u5 (bodyB N)) := by
        obtain ⟨m, h⟩ := HO.out
        rw [List.take_of_length_le (by rw [HNT.out]; exact Nat.le_refl _)] at h
        have := IsB.of_own h
        show IsB _ _ _
        unfold bodyB
        rw [HNT.out]
        exact this
      go_wp2_with fail
      go_ret
      exact ⟨_, rfl, HZ.out, HBX.out⟩
set_option maxHeartbeats 4000000 in
theorem nfput_any (v : Value) (N : Nt) (w : World) (hv : IsN w v N) (hs : szN N ≤ 1000000) (hwf : WfN N) (ht : Hid (Tab w)) :
    Calls Tryd.prog 11 #[v] w fun e w' => ∃ u, e = .returned (.tuple #[u, .int .i64 (putNf N).2]) ∧ IsB w' u (putNf N).1 ∧ Below w.heap.size w w' := by
  obtain ⟨A, c, rfl, hc, hm, hS⟩ := hv.slice
  obtain ⟨n, hn⟩ : ∃ n, N.length = n := ⟨_, rfl⟩
  rw [hn] at hc hS ⊢
  have HS := Lib.hid hS
  have HW := Lib.hid hwf
  have HB0 : Hid (Below w.heap.size w (w.alloc (.cells #[.slice A n c] 24))) := (Below.refl _ _).alloc (Nat.le_refl _) _
  have HK0 := Lib.hid (Blk.new w #[.slice A n c] 24)
  have HT0 := Lib.hid (ht.out.bel HB0.out)
  have CM := Lib.hid (nmay_any (.agg #[.slice A n c]) N _ (hS.bel HB0.out).mk hs hwf)
  have q0 := HK0.out.cell 0 rfl
  obtain ⟨e0, he0⟩ : ∃ e0, mayN N = e0 := ⟨_, rfl⟩
  rw [he0] at CM
  have HE0 := Lib.hid he0
  clear hv hS hn hc hm hs hwf he0 ht
  go_enter Tryd.func11, Tryd.ntmps11
  go_wp2_with fail
  refine CM.out.mono ?_
  rintro e1 w1 ⟨rfl, hb1⟩
  have HB1 := Lib.hid (HB0.out.trans (hb1.mono HB0.out.size))
  have HK1 := Lib.hid (HK0.out.bel hb1)
  have HT1 := Lib.hid (HT0.out.bel hb1)
  clear hb1 q0 CM HB0 HK0 HT0
  have q0 := HK1.out.cell 0 rfl
  by_cases h0 : e0 = 0
  · subst h0
    have HP : Hid (putNf N = (frameN magicN (bodyB N), 0)) := putNf_ok HE0.out
    obtain ⟨hl1, hl2, _⟩ := mayN_ok.1 HE0.out
    have CB := Lib.hid (nfnodes_any (.slice A n c) N w1 (HS.out.bel HB1.out) hl1 hl2 (fit_of_net HE0.out HW.out))
    have hlen := bodyB_le N
    have hlb : ((bodyB N).length : Int) ≤ 1099511627776 := by omega
    have HLB := Lib.hid hlb
    clear hl1 hl2 hlen hlb
    go_wp2_with fail
    refine CB.out.mono ?_
    rintro e2 w2 ⟨v2, rfl, hv2, hb2⟩
    have HB2 := Lib.hid (HB1.out.trans (hb2.mono HB1.out.size))
    have CF := Lib.hid (fput_any magicN v2 (bodyB N) w2 (by decide) hv2 HLB.out (Lib.hid (HT1.out.bel hb2)))
    clear hv2 hb2 CB q0
    unfold magicN at CF
    go_wp2_with fail
    refine CF.out.mono ?_
    rintro e3 w3 ⟨v3, rfl, ho3, hb3⟩
    have HO3 : Hid (IsB w3 v3 (frameN magicN (bodyB N))) := IsB.of_own ho3
    have HB3 := Lib.hid (HB2.out.trans (hb3.mono HB2.out.size))
    clear ho3 hb3 CF
    go_wp2_with fail
    go_ret2
    exact ⟨_, by rw [HP.out]; rfl, by rw [HP.out]; exact HO3.out, HB3.out⟩
  · have HP : Hid (putNf N = ([], e0)) := by
      have h := putNf_no (N := N) (by rw [HE0.out]; exact h0)
      rw [HE0.out] at h
      exact h
    have t1 : (e0 != 0) = true := by rw [bne_iff_ne]; exact h0
    go_wp2_with fail
    go_ret2
    exact ⟨_, by rw [HP.out]; rfl, by rw [HP.out]; exact IsB.nil_ _, HB1.out⟩
end Go.Proofs.YtohggpaffmcfoaaDoor
