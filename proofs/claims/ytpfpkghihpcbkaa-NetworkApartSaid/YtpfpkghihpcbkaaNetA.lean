/- Contract of network.around: the nodes of the loop that a node lies on. -/
import Derived.Test.YtpfpkghihpcbkaaNetW
import Derived.Test.YtpfpkghihpcbkaaRef09l
import Derived.Maps.AppendAt
namespace Go.Proofs.Ytpfpkghihpcbkaa
open Go.RowKit
set_option linter.unusedVariables false
set_option linter.unusedSimpArgs false
attribute [local go_sem] Oper.semAt_some wide_depth wide_fn

theorem Blk.low {b : Nat} {cs : Array Value} {t : TypeId} {W V : World} (h : Blk b cs t W) {m : Nat} (hb : Below m W V) (hm : b < m) : Blk b cs t V := (hb.block b hm).trans h
theorem keeps_grown {W V : World} {base size n : Nat} {e : TypeId} {v : Value} {xs : List Value} (h : W.ownsRow base e size v n xs) (hg : W.grownBy V v.ownBlock) : KeepsOthers W V := by
  refine KeepsOthers.of_grownBy hg fun j o ej hj => ?_
  rcases h.2 with ⟨rfl, _⟩ | ⟨g, cap, cur, rfl, _, hgb, _⟩
  · simp [Value.ownBlock] at ej
  · obtain rfl : g = j := by simpa [Value.ownBlock] using ej
    rw [hgb] at hj
    cases hj
    rfl
theorem own_block {W : World} {base size n : Nat} {e : TypeId} {v : Value} {xs : List Value} (h : W.ownsRow base e size v n xs) : ∀ q, v.ownBlock = some q → base ≤ q := by
  intro q hq
  rcases h.2 with ⟨rfl, _⟩ | ⟨g, cap, cur, rfl, hb, _⟩
  · simp [Value.ownBlock] at hq
  · obtain rfl : g = q := by simpa [Value.ownBlock] using hq
    exact hb
/-- behind 'out = append(out, x)' where out lies in a box below the rows of one's own -/
theorem appended_all {W w1 : World} {m B k k' : Nat} {e t : TypeId} {v v' : Value} {xs ys : List Value} {tmp : Obj} (hm : m ≤ W.heap.size) (hB : B < m) (hv : Blk B #[v] t W) (hr : W.ownsRow m e 1 v k xs)
    (ho : w1.ownsRow m e 1 v' k' ys) (hg : (W.alloc tmp).grownBy w1 v.ownBlock) :
    Blk B #[v] t w1 ∧ Blk B #[v'] t (w1.setCell ⟨B, 0, none⟩ v') ∧ (w1.setCell ⟨B, 0, none⟩ v').ownsRow m e 1 v' k' ys ∧ (∀ q cs s, q < m → q ≠ B → Blk q cs s W → Blk q cs s (w1.setCell ⟨B, 0, none⟩ v')) ∧
    KeepsOthers W (w1.setCell ⟨B, 0, none⟩ v') ∧ (∀ n₀, n₀ ≤ B → Below n₀ W (w1.setCell ⟨B, 0, none⟩ v')) := by
  have hra : (W.alloc tmp).ownsRow m e 1 v k xs := own_bel hr ((Below.refl _ _).alloc (Nat.le_refl _) _)
  have hb1 : Below m W w1 := ((Below.refl m W).alloc hm tmp).grown hg (by simp only [World.size_alloc]; omega) (own_block hra)
  have h1 : Blk B #[v] t w1 := hv.low hb1 hB
  obtain ⟨a1, a2, a3, a4, _⟩ := set_one h1 v'
  exact ⟨h1, a1, ownsRow_setCell_below ho hB v', fun q cs s hq hn hk => a2 q cs s hn (hk.low hb1 hq), ((KeepsOthers.alloc W tmp).trans (keeps_grown hra hg)).trans a3, fun n₀ hn => (hb1.mono (by omega)).trans (a4 n₀ hn)⟩
theorem path_first {N : Nt} {a : Nat} {v : Int} {K : Nat} (h : First N a v K) {j : Nat} (hj : j ≤ K) {x : Int} (hx : itN N a j v = some x) :
    ((x == v) = true ∧ (j = 0 ∨ j = K)) ∨ ((x == v) = false ∧ 0 < j ∧ j < K) := by
  rcases (by omega : j = 0 ∨ j = K ∨ (0 < j ∧ j < K)) with rfl | rfl | ⟨h1, h2⟩
  · injection hx with hx
    exact .inl ⟨by rw [hx]; simp, .inl rfl⟩
  · rw [h.2.1] at hx
    injection hx with hx
    exact .inl ⟨by rw [hx]; simp, .inr rfl⟩
  · exact .inr ⟨by rw [beq_eq_false_iff_ne]; intro e; exact h.2.2 j h1 h2 (by rw [hx, e]), h1, h2⟩

set_option maxRecDepth 100000 in
set_option maxHeartbeats 4000000 in
theorem naround_any (v : Value) (N : Nt) (a : Nat) (u : Int) (K : Nat) (w : World) (hv : IsN w v N) (ha : (a : Int) ≤ 4294967295) (hwf : WfN N) (hF : First N a u K) (hK : K ≤ 1000) :
    Calls Try.prog 26 #[v, .int .u32 (a : Int), .int .i64 u] w fun e w' => ∃ z, e = .returned z ∧ IsI w' z (path N a u K) ∧ Below w.heap.size w w' := by
  obtain ⟨A, c, rfl, hc, hm, hS⟩ := hv.slice
  obtain ⟨n, hn⟩ : ∃ n, N.length = n := ⟨_, rfl⟩
  rw [hn] at hc hS ⊢
  have HS := Lib.hid hS
  have HF := Lib.hid hF
  have HII := Lib.hid int_info
  obtain ⟨g, hg⟩ : ∃ g, w.heap.size = g := ⟨_, rfl⟩
  have HG := Lib.hid hg
  obtain ⟨w1, hw1, k1, k2, k3, hb1, hz1⟩ := boxes3 w #[.slice A n c] #[.int .i64 u] #[.slice none 0 0] 24 3 29 hg
  have HB1 := Lib.hid hb1
  have K1 := Lib.hid k1
  have K2 := Lib.hid k2
  have K3 := Lib.hid k3
  have HZ1 := Lib.hid hz1
  have q1 := k1.cell 0 rfl
  have q2 := k2.cell 0 rfl
  clear hv hS hn hc hm k1 k2 k3 hb1 hz1 hF
  refine (callsIn_wide (n := 9)).1 ?_
  refine callsIn_of_wp_marks Try.func26 rfl trivial ?_
  simp only [Try.ntmps26, List.size_toArray, List.length_cons, List.length_nil, Nat.reduceAdd, Nat.reduceSub, Array.replicate_succ, Array.replicate_zero, List.push_toArray, List.append_toArray, List.nil_append, List.cons_append]
  gi_upto_region 2 with fail
  clear hg hw1
  obtain ⟨h, hh⟩ : ∃ h, w1.heap.size = h := ⟨_, rfl⟩
  have HH := Lib.hid hh
  clear hh
  gi_wp2
  refine (npassed_at A n c a u w1 HH.out).mono ?_
  rintro e3 w3 ⟨rfl, p1, p2, p3, hb3, hz3⟩
  have P1 := Lib.hid p1
  have P2 := Lib.hid p2
  have P3 := Lib.hid p3
  have HZ3 := Lib.hid hz3
  have hb2 : Below w1.heap.size w1 w3 := by rw [HH.out]; exact hb3
  have K13 := Lib.hid (K1.out.bel hb2)
  have K23 := Lib.hid (K2.out.bel hb2)
  have K33 := Lib.hid (K3.out.bel hb2)
  have HGH : Hid (g + 3 ≤ h) := by
    show _ ≤ _
    have h1 := HZ1.out
    have h2 := HH.out
    omega
  have HB3 : Hid (Below g w w3) := HB1.out.trans (hb3.mono (by have h1 := HGH.out; omega))
  clear p1 p2 p3 hb3 hz3 hb2 K1 K2 K3 HB1 HZ1 HH q1 q2
  gi_wp2
  refine wpIn_counted (F := Fence.wide) (a₁ := ?a1) rfl (by omega) (gf := 40) (lb := #[.pointer (some ⟨h + 1 + 1, 0, none⟩), .pointer (some ⟨h, 0, none⟩), .pointer (some ⟨h + 1, 0, none⟩)]) rfl trivial (enters_of Try.func40 (by kernel_rfl) rfl)
    (seq_gives (h + 1 + 1) h (h + 1) A n c N a u K _ ha hwf) rfl
    (fun j W => j ≤ K ∧ (∃ z, Blk (g + 1 + 1) #[z] 29 W ∧ W.ownsRow (h + 3) 3 1 z j (ints (path N a u j))) ∧ Blk (g + 1) #[.int .i64 u] 3 W ∧ Blk h #[.slice A n c] 24 W ∧ Blk (h + 1) #[.int .u32 (a : Int)] 25 W ∧ Blk (h + 1 + 1) #[.int .i64 u] 3 W ∧ Below g w W)
    (fun x W => x = .exit 0 ∧ ∃ z, Blk (g + 1 + 1) #[z] 29 W ∧ W.ownsRow (h + 3) 3 1 z K (ints (path N a u K)) ∧ Below g w W)
    ?own ?ownx ?reads ⟨Nat.zero_le _, ⟨_, K33.out, World.ownsRow_nil _ _ _ _⟩, K23.out, P1.out, P2.out, P3.out, HB3.out⟩ ?assign ?body ?done ?stop
  case own =>
    refine own_of_stp ?_
    rintro j X Y ⟨i0, ⟨z, i1, i2⟩, i3, i4, i5, i6, i7⟩ s
    exact ⟨i0, ⟨z, i1.stp s, own_stp i2 s⟩, i3.stp s, i4.stp s, i5.stp s, i6.stp s, below_stp i7 s (by rw [HG.out]; exact Nat.le_refl _) (by have h1 := HGH.out; have h2 := HZ3.out; omega)⟩
  case ownx =>
    refine own_of_stp ?_
    rintro x X Y ⟨rfl, z, i1, i2, i3⟩ s
    exact ⟨rfl, z, i1.stp s, own_stp i2 s, below_stp i3 s (by rw [HG.out]; exact Nat.le_refl _) (by have h1 := HGH.out; have h2 := HZ3.out; omega)⟩
  case reads =>
    rintro j X ⟨i0, _, i3, i4, i5, i6, i7⟩
    exact ⟨i0, reads_of HS.out (by rw [HG.out]; exact i7) i4 i5 i6⟩
  case assign =>
    intro l x W K hK
    gi_wp2
    exact hK
  case body =>
    rintro l j x W ⟨i0, ⟨z, i1, i2⟩, i3, i4, i5, i6, i7⟩ hx
    have HX := Lib.hid hx
    have HIB : Hid (Below g w W) := i7
    have I3 := Lib.hid i3
    have I4 := Lib.hid i4
    have I5 := Lib.hid i5
    have I6 := Lib.hid i6
    have I1 := Lib.hid i1
    have I2 := Lib.hid i2
    have g1 := HGH.out
    have hor := path_first HF.out i0 hx
    clear i1 i2 i3 i4 i5 i6 i7 hx
    have q1 := I3.out.cell 0 rfl
    have q2 := I1.out.cell 0 rfl
    have f2 := I1.out.froz 0
    obtain ⟨A', c', rfl, hz1, hz2, hz3, hz4⟩ := Sl.of_own I2.out
    clear hz1 hz2 hz3 hz4
    have hK1 := HF.out.1
    rcases hor with ⟨hb, rfl | rfl⟩ | ⟨hb, hj1, hj2⟩
    · have t1 : decide (((0 : Nat) : Int) > 0) = false := decide_eq_false (by omega)
      obtain ⟨i0', hi0, hz0, hz1, hz2⟩ := info_parts HII.out
      have HRA := Lib.hid (own_bel I2.out ((Below.refl W.heap.size W).alloc (Nat.le_refl _) (.cells #[.int .i64 x] 3)))
      have hsz : h + 3 ≤ W.heap.size := by have := I6.out.size; omega
      have HI1 : Hid (∀ w4 v4, w4.ownsRow (h + 3) 3 1 v4 (0 + 1) (ints (path N a u 0) ++ ints [x]) → (W.alloc (.cells #[.int .i64 x] 3)).grownBy w4 (Value.slice A' 0 c').ownBlock → _) := fun w4 v4 h1 h2 => appended_all hsz (by omega) I1.out I2.out h1 h2
      have HNW : Hid (Has (W.alloc (.cells #[.int .i64 x] 3)) (some ⟨W.heap.size, 0, none⟩) (ints [x])) := Has.new W (ints [x]) 3 (0, 0)
      clear I1
      gi_wp2_with (gi_at_builtin; refine wpListIn_append_own _ rfl _ _ 29 rfl (h + 3) 3 i0' (.int .i64 0) 1 8 Try.underlying29 hi0 hz0 hz1 hz2 rfl (by decide) _ _ _ rfl HRA.out ⟨W.heap.size, 0, none⟩ 1 1 (ints [x]) rfl rfl (cell_one_new _ _ _) (ints_one _) (by unfold maxLen; omega) (by omega) (by simp only [World.size_alloc]; omega) ?_; intro v4 w4 hown4 hgrow4 _; obtain ⟨a1, a2, a3, a4, a5, a6⟩ := HI1.out w4 v4 hown4 hgrow4; obtain ⟨g4, c4, rfl⟩ := ownsRow_succ hown4; have A2 := Lib.hid a2; have A3 := Lib.hid a3; have A4 := Lib.hid a4; have A5 := Lib.hid a5; have A6 := Lib.hid a6; have q4 := a1.cell 0 rfl; have f4 := a1.froz 0; clear a1 a2 a3 a4 a5 a6 hown4 hgrow4)
      have hp : ints (path N a u 0) ++ ints [x] = ints (path N a u (0 + 1)) := by rw [path_succ, HX.out, ints_append]; rfl
      exact ⟨A5.out.from _, by omega, ⟨_, A2.out, by rw [← hp]; exact A3.out⟩, A4.out _ _ _ (by omega) (by omega) I3.out, A4.out _ _ _ (by omega) (by omega) I4.out, A4.out _ _ _ (by omega) (by omega) I5.out, A4.out _ _ _ (by omega) (by omega) I6.out, HIB.out.trans (A6.out g (by omega))⟩
    · have t1 : decide ((j : Int) > 0) = true := decide_eq_true (by omega)
      have t2 : decide (0 < j) = true := decide_eq_true (by omega)
      gi_wp2
      exact ⟨KeepsFrom.refl _ _, rfl, _, I1.out, I2.out, HIB.out⟩
    · have t1 : decide ((j : Int) > 0) = true := decide_eq_true (by omega)
      obtain ⟨i0', hi0, hz0, hz1, hz2⟩ := info_parts HII.out
      have HRA := Lib.hid (own_bel I2.out ((Below.refl W.heap.size W).alloc (Nat.le_refl _) (.cells #[.int .i64 x] 3)))
      have hsz : h + 3 ≤ W.heap.size := by have := I6.out.size; omega
      have HI1 : Hid (∀ w4 v4, w4.ownsRow (h + 3) 3 1 v4 (j + 1) (ints (path N a u j) ++ ints [x]) → (W.alloc (.cells #[.int .i64 x] 3)).grownBy w4 (Value.slice A' j c').ownBlock → _) := fun w4 v4 h1 h2 => appended_all hsz (by omega) I1.out I2.out h1 h2
      have HNW : Hid (Has (W.alloc (.cells #[.int .i64 x] 3)) (some ⟨W.heap.size, 0, none⟩) (ints [x])) := Has.new W (ints [x]) 3 (0, 0)
      clear I1
      gi_wp2_with (gi_at_builtin; refine wpListIn_append_own _ rfl _ _ 29 rfl (h + 3) 3 i0' (.int .i64 0) 1 8 Try.underlying29 hi0 hz0 hz1 hz2 rfl (by decide) _ _ _ rfl HRA.out ⟨W.heap.size, 0, none⟩ 1 1 (ints [x]) rfl rfl (cell_one_new _ _ _) (ints_one _) (by unfold maxLen; omega) (by omega) (by simp only [World.size_alloc]; omega) ?_; intro v4 w4 hown4 hgrow4 _; obtain ⟨a1, a2, a3, a4, a5, a6⟩ := HI1.out w4 v4 hown4 hgrow4; obtain ⟨g4, c4, rfl⟩ := ownsRow_succ hown4; have A2 := Lib.hid a2; have A3 := Lib.hid a3; have A4 := Lib.hid a4; have A5 := Lib.hid a5; have A6 := Lib.hid a6; have q4 := a1.cell 0 rfl; have f4 := a1.froz 0; clear a1 a2 a3 a4 a5 a6 hown4 hgrow4)
      have hp : ints (path N a u j) ++ ints [x] = ints (path N a u (j + 1)) := by rw [path_succ, HX.out, ints_append]; rfl
      exact ⟨A5.out.from _, by omega, ⟨_, A2.out, by rw [← hp]; exact A3.out⟩, A4.out _ _ _ (by omega) (by omega) I3.out, A4.out _ _ _ (by omega) (by omega) I4.out, A4.out _ _ _ (by omega) (by omega) I5.out, A4.out _ _ _ (by omega) (by omega) I6.out, HIB.out.trans (A6.out g (by omega))⟩
  case done =>
    rintro j W hj ⟨i0, _⟩ hD
    obtain ⟨y, hy⟩ := itN_less HF.out.2.1 i0
    rw [hy] at hj
    cases hj
  case stop =>
    rintro x W ⟨rfl, z, i1, i2, i3⟩ hD
    have g1 := HGH.out
    have hz := HZ3.out
    have q2 := i1.cell 0 rfl
    have I2 := Lib.hid i2
    have HIB : Hid (Below g w W) := i3
    have HD := Lib.hid hD
    obtain ⟨A', c', rfl, hz1, hz2, hz3, hz4⟩ := Sl.of_own I2.out
    clear hz1 hz2 hz3 hz4 i1 i2 i3 hD
    gi_wp2
    have hds : ∀ D ∈ [w3.heap.size], W.heap[D]? = some (.deferred (some [])) := fun D hDD => by rw [List.mem_singleton] at hDD; subst hDD; exact HD.out
    refine leaves_marks [w3.heap.size] _ (by simp) hds fun V v1 v2 v3 v4 v5 => ?_
    exact ⟨_, results_tmp rfl _ _ _, _, rfl, IsI.of_own (own_shut I2.out hds v1), by rw [HG.out]; exact below_shut HIB.out (by omega) v1 v2 v3 v4 v5⟩
end Go.Proofs.Ytpfpkghihpcbkaa
