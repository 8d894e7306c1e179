/- Contract of network.Walk: a range over the iterator, with a count of its own. -/
import Derived.Test.YtpfpkghihpcbkaaNetIt
import Derived.Test.YtpfpkghihpcbkaaStp
import Derived.Sort.CutIn
namespace Go.Proofs.Ytpfpkghihpcbkaa
open Go.RowKit
set_option linter.unusedVariables false
set_option linter.unusedSimpArgs false
attribute [local go_sem] Oper.semAt_some wide_depth wide_fn

theorem reads_of {w W : World} {A : Option Addr} {n c : Nat} {N : Nt} {a : Nat} {u : Int} {tn ta tv : TypeId} {b : Nat}
    (hS : IsS w (.slice A n c) N) (hb : Below w.heap.size w W) (h1 : Blk b #[.slice A n c] tn W) (h2 : Blk (b + 1) #[.int .u32 (a : Int)] ta W) (h3 : Blk (b + 1 + 1) #[.int .i64 u] tv W) :
    Reads (b + 1 + 1) b (b + 1) A n c N a u W := ⟨h3.cell 0 rfl, h1.cell 0 rfl, h2.cell 0 rfl, (hS.bel hb).mk⟩
theorem npassed_at (A : Option Addr) (n c : Nat) (a : Nat) (u : Int) (w : World) {h : Nat} (hh : w.heap.size = h) :
    CallsIn Fence.wide 8 Try.prog 31 #[.agg #[.slice A n c], .int .u32 (a : Int), .int .i64 u] w fun e w' =>
      e = .returned (.func (.func 40) #[] #[.pointer (some ⟨h + 1 + 1, 0, none⟩), .pointer (some ⟨h, 0, none⟩), .pointer (some ⟨h + 1, 0, none⟩)]) ∧
      Blk h #[.slice A n c] 24 w' ∧ Blk (h + 1) #[.int .u32 (a : Int)] 25 w' ∧ Blk (h + 1 + 1) #[.int .i64 u] 3 w' ∧ Below h w w' ∧ w'.heap.size = h + 1 + 1 + 1 := by
  refine callsIn_wide.2 ((npassed_any A n c a u w).mono ?_)
  rintro e w' ⟨rfl, rfl⟩
  obtain ⟨W, rfl, h1, h2, h3, h4, h5⟩ := boxes3 w #[.slice A n c] #[.int .u32 (a : Int)] #[.int .i64 u] 24 25 3 hh
  refine ⟨by rw [hh], h1, h2, h3, h4, h5⟩

set_option maxRecDepth 100000 in
set_option maxHeartbeats 4000000 in
theorem nwalk_any (v : Value) (N : Nt) (a : Nat) (u K : Int) (w : World) (hv : IsN w v N) (ha : (a : Int) ≤ 4294967295) (hwf : WfN N) :
    Calls Try.prog 21 #[v, .int .u32 (a : Int), .int .i64 u, .int .i64 K] w fun e w' => e = .returned (.tuple #[.int .i64 (resO (wkN N a u K)).1, .bool (resO (wkN N a u K)).2]) ∧ Below w.heap.size w w' := by
  obtain ⟨A, c, rfl, hc, hm, hS⟩ := hv.slice
  obtain ⟨n, hn⟩ : ∃ n, N.length = n := ⟨_, rfl⟩
  rw [hn] at hc hS ⊢
  have HN := Lib.hid hn
  have HS := Lib.hid hS
  have CT := Lib.hid (fun wx (hx : Below w.heap.size w wx) => callsIn_wide (n := 8).2 (nthere_any (.agg #[.slice A n c]) N u wx (hS.bel hx).mk))
  obtain ⟨g, hg⟩ : ∃ g, w.heap.size = g := ⟨_, rfl⟩
  have HG := Lib.hid hg
  obtain ⟨w1, hw1, k1, k2, k3, k4, hb1, hz1⟩ := boxes4 w #[.slice A n c] #[.int .i64 K] #[.int .i64 0] #[.bool false] 24 3 3 4 hg
  have HB1 := Lib.hid hb1
  have K1 := Lib.hid k1
  have K2 := Lib.hid k2
  have K3 := Lib.hid k3
  have K4 := Lib.hid k4
  have HZ1 := Lib.hid hz1
  have q1 := k1.cell 0 rfl
  have q2 := k2.cell 0 rfl
  clear hv hS hn hc hm k1 k2 k3 k4 hb1 hz1
  refine (callsIn_wide (n := 9)).1 ?_
  refine callsIn_of_wp_marks Try.func21 rfl trivial ?_
  simp only [Try.ntmps21, List.size_toArray, List.length_cons, List.length_nil, Nat.reduceAdd, Nat.reduceSub, Array.replicate_succ, Array.replicate_zero, List.push_toArray, List.append_toArray, List.nil_append, List.cons_append]
  by_cases hok : 0 ≤ K ∧ K ≤ 256 ∧ 0 ≤ u ∧ u < n
  · obtain ⟨h1, h2, h3, h4⟩ := hok
    have HE := Lib.hid (wkN_ok (N := N) (a := a) h1 h2 h3 (by rw [HN.out]; exact h4))
    obtain ⟨k, rfl⟩ := Int.eq_ofNat_of_zero_le h1
    rw [Int.toNat_natCast] at HE
    have hk256 : k ≤ 256 := by omega
    have t1 : decide ((k : Int) < 0) = false := decide_eq_false (by omega)
    have t2 : decide ((k : Int) > 256) = false := decide_eq_false (by omega)
    have t3 : decide (256 < (k : Int)) = false := decide_eq_false (by omega)
    have t4 : decide (256 < k) = false := decide_eq_false (by omega)
    have ht : thN N u = true := by
      unfold thN
      rw [HN.out, decide_eq_true h3, decide_eq_true h4]
      rfl
    rw [ht] at CT
    gi_wp2
    refine (CT.out _ (by rw [HG.out]; exact HB1.out)).mono ?_
    rintro e2 w2 ⟨rfl, hb2⟩
    have K12 := Lib.hid (K1.out.bel hb2)
    have K22 := Lib.hid (K2.out.bel hb2)
    have K32 := Lib.hid (K3.out.bel hb2)
    have K42 := Lib.hid (K4.out.bel hb2)
    have HB2 : Hid (Below g w w2) := HB1.out.trans (hb2.mono (by have := HZ1.out; omega))
    have HZ2 : Hid (g + 4 ≤ w2.heap.size) := by
      have h := HZ1.out
      have h' := hb2.size
      show _ ≤ _
      omega
    clear hb2 K1 K2 K3 K4 HB1 HZ1 CT t1 t2 t3 t4 ht q1 q2 hg hw1 h1 h2 h3 h4
    obtain ⟨h, hh⟩ : ∃ h, w2.heap.size = h := ⟨_, rfl⟩
    have q1 := K12.out.cell 0 rfl
    have HH := Lib.hid hh
    clear hh
    gi_wp2
    refine (npassed_at A n c a u w2 HH.out).mono ?_
    rintro e3 w3 ⟨rfl, p1, p2, p3, hb3, hz3⟩
    have P1 := Lib.hid p1
    have P2 := Lib.hid p2
    have P3 := Lib.hid p3
    have HZ3 := Lib.hid hz3
    have hb2 : Below w2.heap.size w2 w3 := by rw [HH.out]; exact hb3
    have K13 := Lib.hid (K12.out.bel hb2)
    have K23 := Lib.hid (K22.out.bel hb2)
    have K33 := Lib.hid (K32.out.bel hb2)
    have K43 := Lib.hid (K42.out.bel hb2)
    have HB3 : Hid (Below g w w3) := HB2.out.trans (hb3.mono (by have h1 := HZ2.out; have h2 := HH.out; omega))
    have HGH : Hid (g + 4 ≤ h) := by show _ ≤ _; rw [← HH.out]; exact HZ2.out
    clear p1 p2 p3 hb3 hz3 hb2 K12 K22 K32 K42 HB2 HZ2 HH q1
    gi_wp2
    refine wpIn_counted (F := Fence.wide) (a₁ := ?a1) rfl (by omega) (gf := 40) (lb := #[.pointer (some ⟨h + 1 + 1, 0, none⟩), .pointer (some ⟨h, 0, none⟩), .pointer (some ⟨h + 1, 0, none⟩)]) rfl trivial (enters_of Try.func40 (by kernel_rfl) rfl)
      (seq_gives (h + 1 + 1) h (h + 1) A n c N a u k _ ha hwf) rfl
      (fun j W => j ≤ k ∧ Blk (g + 1) #[.int .i64 ((k - j : Nat) : Int)] 3 W ∧ Blk (g + 1 + 1) #[.int .i64 0] 3 W ∧ Blk (g + 1 + 1 + 1) #[.bool false] 4 W ∧ Blk h #[.slice A n c] 24 W ∧ Blk (h + 1) #[.int .u32 (a : Int)] 25 W ∧ Blk (h + 1 + 1) #[.int .i64 u] 3 W ∧ Below g w W)
      (fun z W => z = .ret ∧ ∃ y, itN N a k u = some y ∧ Blk (g + 1 + 1) #[.int .i64 y] 3 W ∧ Blk (g + 1 + 1 + 1) #[.bool true] 4 W ∧ Below g w W)
      ?own ?ownx ?reads ⟨Nat.zero_le _, K23.out, K33.out, K43.out, P1.out, P2.out, P3.out, HB3.out⟩ ?assign ?body ?done ?stop
    case own =>
      refine own_of_stp ?_
      rintro j X Y ⟨i0, i1, i2, i3, i4, i5, i6, i7⟩ s
      exact ⟨i0, i1.stp s, i2.stp s, i3.stp s, i4.stp s, i5.stp s, i6.stp s, below_stp i7 s (by rw [HG.out]; exact Nat.le_refl _) (by have h1 := HGH.out; have h2 := HZ3.out; omega)⟩
    case ownx =>
      refine own_of_stp ?_
      rintro z X Y ⟨rfl, y, i0, i1, i2, i3⟩ s
      exact ⟨rfl, y, i0, i1.stp s, i2.stp s, below_stp i3 s (by rw [HG.out]; exact Nat.le_refl _) (by have h1 := HGH.out; have h2 := HZ3.out; omega)⟩
    case reads =>
      rintro j X ⟨i0, i1, i2, i3, i4, i5, i6, i7⟩
      exact ⟨i0, reads_of HS.out (by rw [HG.out]; exact i7) i4 i5 i6⟩
    case assign =>
      intro l x W K hK
      gi_wp2
      exact hK
    case body =>
      rintro l j x W ⟨i0, i1, i2, i3, i4, i5, i6, i7⟩ hx
      have HX := Lib.hid hx
      have HIB : Hid (Below g w W) := i7
      have I4 := Lib.hid i4
      have I5 := Lib.hid i5
      have I6 := Lib.hid i6
      have I1 := Lib.hid i1
      have I2 := Lib.hid i2
      have I3 := Lib.hid i3
      have g1 := HGH.out
      have HS1 := Lib.hid (set_one i1 (.int .i64 ((k - (j + 1) : Nat) : Int)))
      have HS2 := Lib.hid (set_two i2 i3 (by omega) (.int .i64 x) (.bool true))
      clear i1 i2 i3 i4 i5 i6 i7 hx
      by_cases hk : j = k
      · subst hk
        rw [Nat.sub_self] at I1
        have q1 := I1.out.cell 0 rfl
        have q2 := I2.out.cell 0 rfl
        have q3 := I3.out.cell 0 rfl
        have f2 := I2.out.froz 0
        have f3 := I3.out.froz 0
        gi_wp2
        obtain ⟨a1, a2, _, a4, a5, _⟩ := HS2.out
        exact ⟨a4.from _, rfl, x, HX.out, a1, a2, HIB.out.trans (a5 g (by omega) (by omega))⟩
      · obtain ⟨m, hm⟩ : ∃ m, k - (j + 1) = m := ⟨_, rfl⟩
        have hm1 : k - j = m + 1 := by omega
        rw [hm1] at I1
        rw [hm] at HS1
        have q1 := I1.out.cell 0 rfl
        have f1 := I1.out.froz 0
        have t1 : (((m + 1 : Nat) : Int) == 0) = false := by rw [beq_eq_false_iff_ne]; omega
        have t2 : (((m : Int) + 1) == 0) = false := by rw [beq_eq_false_iff_ne]; omega
        have HM := Lib.hid hm
        have hmb : (m : Int) ≤ 1000 := by omega
        clear hm hm1
        gi_wp2
        obtain ⟨a1, a2, a3, a4, _⟩ := HS1.out
        exact ⟨a3.from _, by omega, by rw [HM.out]; exact a1, a2 _ _ _ (by omega) I2.out, a2 _ _ _ (by omega) I3.out, a2 _ _ _ (by omega) I4.out, a2 _ _ _ (by omega) I5.out, a2 _ _ _ (by omega) I6.out, HIB.out.trans (a4 g (by omega))⟩
    case done =>
      rintro j W hj ⟨i0, i1, i2, i3, i4, i5, i6, i7⟩ hD
      have HR : Hid (resO (wkN N a u (k : Int)) = (0, false)) := by
        show _ = _
        rw [HE.out]
        cases e : itN N a k u with
        | none => rfl
        | some y =>
          obtain ⟨z, hz⟩ := itN_less e i0
          rw [hz] at hj
          cases hj
      have g1 := HGH.out
      have q2 := i2.cell 0 rfl
      have q3 := i3.cell 0 rfl
      have f2 := i2.froz 0
      have f3 := i3.froz 0
      have HS2 := Lib.hid (set_two i2 i3 (by omega) (.int .i64 0) (.bool false))
      have HIB : Hid (Below g w W) := i7
      have HD := Lib.hid hD
      clear i1 i2 i3 i4 i5 i6 i7 hj hD
      gi_wp2
      obtain ⟨a1, a2, _, a4, a5, a6⟩ := HS2.out
      have hbz := HIB.out.trans (a5 g (by omega) (by omega))
      refine leaves_marks [w3.heap.size] _ (by simp) (fun D hDD => by rw [List.mem_singleton] at hDD; subst hDD; exact a4.same _ _ HD.out rfl) fun V v1 v2 v3 v4 v5 => ?_
      have hz := HZ3.out
      have c1 : V.cell? ⟨g + 1 + 1, 0, none⟩ = some (.int .i64 0) := (World.cell?_of_block (v1 _ (by intro D hDD; rw [List.mem_singleton] at hDD; show g + 1 + 1 ≠ D; omega))).trans (a1.cell 0 rfl)
      have c2 : V.cell? ⟨g + 1 + 1 + 1, 0, none⟩ = some (.bool false) := (World.cell?_of_block (v1 _ (by intro D hDD; rw [List.mem_singleton] at hDD; show g + 1 + 1 + 1 ≠ D; omega))).trans (a2.cell 0 rfl)
      exact ⟨.tuple #[.int .i64 0, .bool false], by simp [results, Try.f21, go_sem, c1, c2], by rw [HR.out], by rw [HG.out]; exact below_shut hbz (by omega) v1 v2 v3 v4 v5⟩
    case stop =>
      rintro z W ⟨rfl, y, i0, i1, i2, i3⟩ hD
      have HR : Hid (resO (wkN N a u (k : Int)) = (y, true)) := by show _ = _; rw [HE.out, i0]; rfl
      have g1 := HGH.out
      have hz := HZ3.out
      have I1 := Lib.hid i1
      have I2 := Lib.hid i2
      have HIB : Hid (Below g w W) := i3
      have HD := Lib.hid hD
      clear i1 i2 i3 hD
      gi_wp2
      refine leaves_marks [w3.heap.size] _ (by simp) (fun D hDD => by rw [List.mem_singleton] at hDD; subst hDD; exact HD.out) fun V v1 v2 v3 v4 v5 => ?_
      have c1 : V.cell? ⟨g + 1 + 1, 0, none⟩ = some (.int .i64 y) := (World.cell?_of_block (v1 _ (by intro D hDD; rw [List.mem_singleton] at hDD; show g + 1 + 1 ≠ D; omega))).trans (I1.out.cell 0 rfl)
      have c2 : V.cell? ⟨g + 1 + 1 + 1, 0, none⟩ = some (.bool true) := (World.cell?_of_block (v1 _ (by intro D hDD; rw [List.mem_singleton] at hDD; show g + 1 + 1 + 1 ≠ D; omega))).trans (I2.out.cell 0 rfl)
      exact ⟨.tuple #[.int .i64 y, .bool true], by simp [results, Try.f21, go_sem, c1, c2], by rw [HR.out], by rw [HG.out]; exact below_shut HIB.out (by omega) v1 v2 v3 v4 v5⟩
  · have HE : Hid (resO (wkN N a u K) = (0, false)) := by show _ = _; rw [wkN_no (by rw [HN.out]; omega)]; rfl
    have fin : ∀ W : World, Blk (g + 1 + 1) #[.int .i64 0] 3 W → Blk (g + 1 + 1 + 1) #[.bool false] 4 W → Below g w W → Hid (∃ V, V = (W.setCell ⟨g + 1 + 1, 0, none⟩ (.int .i64 0)).setCell ⟨g + 1 + 1 + 1, 0, none⟩ (.bool false) ∧ V.cell? ⟨g + 1 + 1, 0, none⟩ = some (.int .i64 0) ∧ V.cell? ⟨g + 1 + 1 + 1, 0, none⟩ = some (.bool false) ∧ Below g w V) := fun W h3 h4 hb => by
      obtain ⟨a1, a2, _, _, a5, _⟩ := set_two h3 h4 (by omega) (.int .i64 0) (.bool false)
      exact ⟨_, rfl, a1.cell 0 rfl, a2.cell 0 rfl, hb.trans (a5 g (by omega) (by omega))⟩
    have FIN := Lib.hid fin
    clear fin
    rcases (by omega : K < 0 ∨ (0 ≤ K ∧ 256 < K) ∨ (0 ≤ K ∧ K ≤ 256 ∧ ¬ (0 ≤ u ∧ u < n))) with h1 | ⟨h1, h2⟩ | ⟨h1, h2, h3⟩
    · have t1 : decide (K < 0) = true := decide_eq_true h1
      have hf3 := K3.out.froz 0
      have hf4 := K4.out.froz 0
      have hc3 := K3.out.cell 0 rfl
      have hc4 := K4.out.cell 0 rfl
      gi_wp2
      obtain ⟨V, hV, c1, c2, hb⟩ := (FIN.out w1 K3.out K4.out HB1.out).out
      rw [← hV]
      exact ⟨.tuple #[.int .i64 0, .bool false], by simp [results, Try.f21, go_sem, c1, c2], by rw [HE.out], by rw [HG.out]; exact hb⟩
    · have t1 : decide (K < 0) = false := decide_eq_false (by omega)
      have t2 : decide (K > 256) = true := decide_eq_true h2
      have t3 : decide (256 < K) = true := decide_eq_true h2
      have hf3 := K3.out.froz 0
      have hf4 := K4.out.froz 0
      have hc3 := K3.out.cell 0 rfl
      have hc4 := K4.out.cell 0 rfl
      gi_wp2
      obtain ⟨V, hV, c1, c2, hb⟩ := (FIN.out w1 K3.out K4.out HB1.out).out
      rw [← hV]
      exact ⟨.tuple #[.int .i64 0, .bool false], by simp [results, Try.f21, go_sem, c1, c2], by rw [HE.out], by rw [HG.out]; exact hb⟩
    · have t1 : decide (K < 0) = false := decide_eq_false (by omega)
      have t2 : decide (K > 256) = false := decide_eq_false (by omega)
      have t3 : decide (256 < K) = false := decide_eq_false (by omega)
      have ht : thN N u = false := by
        unfold thN
        rw [HN.out]
        rcases (by omega : u < 0 ∨ (n : Int) ≤ u) with h | h
        · rw [decide_eq_false (by omega)]; rfl
        · rw [decide_eq_false (p := u < (n : Int)) (by omega), Bool.and_false]
      rw [ht] at CT
      gi_wp2
      refine (CT.out _ (by rw [HG.out]; exact HB1.out)).mono ?_
      rintro e2 w2 ⟨rfl, hb2⟩
      have K32 := Lib.hid (K3.out.bel hb2)
      have K42 := Lib.hid (K4.out.bel hb2)
      have HB2 : Hid (Below g w w2) := HB1.out.trans (hb2.mono (by have := HZ1.out; omega))
      have hf3 := K32.out.froz 0
      have hf4 := K42.out.froz 0
      have hc3 := K32.out.cell 0 rfl
      have hc4 := K42.out.cell 0 rfl
      clear hb2
      gi_wp2
      obtain ⟨V, hV, c1, c2, hb⟩ := (FIN.out w2 K32.out K42.out HB2.out).out
      rw [← hV]
      exact ⟨.tuple #[.int .i64 0, .bool false], by simp [results, Try.f21, go_sem, c1, c2], by rw [HE.out], by rw [HG.out]; exact hb⟩
end Go.Proofs.Ytpfpkghihpcbkaa
