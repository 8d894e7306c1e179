/- The walk of theseuslaw09.NetworkMay. -/
import Derived.Test.YtpfpkghihpcbkaaL09
import Derived.Test.YtpfpkghihpcbkaaRef09
import Derived.Test.YtpfpkghihpcbkaaNetOwn
import Derived.Deep.DeepCutAuto
import Derived.Deep.RegionHeld3
import Derived.Deep.AppendLies
import Derived.OwnWalk
import Derived.Laws.OwnMore
namespace Go.Proofs.Ytpfpkghihpcbkaa
open Go.RowKit
set_option linter.unusedVariables false
set_option linter.unusedSimpArgs false

def rul (i : Nat) : Rl := ⟨i, 32, 3, 0⟩
def tabB (b i : Nat) : List Rl := ((List.range i).filter fun j => decide (j % 2 = b)).map rul
def deepN (i : Nat) : Nt := [tabB 0 i, tabB 1 i]
theorem tab_yes {b i : Nat} (h : i % 2 = b) : tabB b (i + 1) = tabB b i ++ [rul i] := by
  unfold tabB
  rw [List.range_succ, List.filter_append, List.map_append]
  simp [h]
theorem tab_no {b i : Nat} (h : i % 2 ≠ b) : tabB b (i + 1) = tabB b i := by
  unfold tabB
  rw [List.range_succ, List.filter_append, List.map_append]
  simp [h]
theorem tab_len : ∀ i, (tabB 0 i).length + (tabB 1 i).length = i
  | 0 => rfl
  | i + 1 => by
    have ih := tab_len i
    rcases (by omega : i % 2 = 0 ∨ i % 2 = 1) with h | h
    · rw [tab_yes h, tab_no (b := 1) (by omega), List.length_append]
      simp
      omega
    · rw [tab_yes h, tab_no (b := 0) (by omega), List.length_append]
      simp
      omega
theorem deep_sz (i : Nat) : szN (deepN i) = i := by
  have := tab_len i
  simp only [deepN, szN]
  omega
theorem rul_ok (i : Nat) : mayRl (rul i) 2 = 0 := mayRl_ok.2 ⟨mayI_ok.2 ⟨by show (0 : Int) ≤ 32; omega, by show (32 : Int) ≤ 32; omega, by show loN i (cl 32) = i; rw [show cl 32 = 32 from rfl, lo_full]⟩, .inr ⟨.inr rfl, rfl⟩⟩
theorem tab_may (b i : Nat) : mayT (tabB b i) 2 = 0 := by
  rw [mayT_ok]
  refine ⟨fun r hr => ?_, ?_⟩
  · obtain ⟨j, _, rfl⟩ := List.mem_map.1 hr
    exact rul_ok j
  · unfold Ord tabB
    rw [List.pairwise_map]
    refine List.Pairwise.filter _ (List.pairwise_lt_range.imp fun {a c} h => ?_)
    unfold ltR
    rw [cmpR_lt]
    exact .inl h
theorem deep_may (i : Nat) : mayN (deepN i) = if 4096 < i then 12 else 0 := by
  unfold mayN
  rw [deep_sz]
  by_cases h : 4096 < i
  · rw [if_pos (.inr h), if_pos h]
  · rw [if_neg (by simp [deepN]; omega), if_neg h, firstE_ok]
    intro l hl
    simp only [deepN, List.mem_cons, List.not_mem_nil, or_false] at hl
    rcases hl with rfl | rfl
    · exact tab_may 0 i
    · exact tab_may 1 i
theorem deep_wf {i : Nat} (h : i ≤ 5000) : WfN (deepN i) := by
  intro l hl r hr
  have key : ∀ b, r ∈ tabB b i → r.at_ ≤ 4294967295 := fun b hb => by
    obtain ⟨j, hj, rfl⟩ := List.mem_map.1 hb
    have := List.mem_range.1 (List.mem_filter.1 hj).1
    show j ≤ _
    omega
  simp only [deepN, List.mem_cons, List.not_mem_nil, or_false] at hl
  rcases hl with rfl | rfl
  · exact key 0 hr
  · exact key 1 hr
def lastR (n : Nat) : Rl := ⟨0, 0, 1, (n : Int)⟩
def wideN (n : Nat) : Nt := [lastR n] :: List.replicate n []
theorem nil_sz : ∀ n, szN (List.replicate n ([] : List Rl)) = 0
  | 0 => rfl
  | n + 1 => by rw [List.replicate_succ]; simp [szN, nil_sz n]
theorem wide_sz (n : Nat) : szN (wideN n) = 1 := by simp [wideN, szN, nil_sz]
theorem may_00 : mayI 0 0 = 0 := mayI_ok.2 ⟨by omega, by omega, by decide⟩
theorem may_one {r : Rl} {m : Int} (h : mayRl r m = 0) : mayT [r] m = 0 := mayT_ok.2 ⟨fun x hx => by rw [List.mem_singleton.1 hx]; exact h, List.pairwise_singleton _ _⟩
theorem wide_may (n : Nat) : mayN (wideN n) = if 256 < n + 1 then 12 else 0 := by
  unfold mayN
  rw [wide_sz]
  by_cases h : 256 < n + 1
  · rw [if_pos (.inl (by simp [wideN]; omega)), if_pos h]
  · rw [if_neg (by simp [wideN]; omega), if_neg h, firstE_ok]
    intro l hl
    unfold wideN at hl
    rcases List.mem_cons.1 hl with rfl | hl
    · exact may_one (mayRl_ok.2 ⟨may_00, .inl ⟨rfl, by show (0 : Int) ≤ (n : Int); omega, by show (n : Int) < ((wideN n).length : Int); simp [wideN]; omega⟩⟩)
    · rw [List.eq_of_mem_replicate hl]
      rfl
theorem odd_may {n : Nat} (h : 1 ≤ n) : mayN [[lastR n]] = 10 := by
  have h1 : mayRl (lastR n) 1 = 10 := mayR_next_no may_00 (.inr (by show (1 : Int) ≤ (n : Int); omega))
  have h2 : mayT [lastR n] 1 = 10 := by
    show mayGo none [lastR n] 1 = 10
    rw [mayGo_cons, if_pos (by rw [h1]; decide), h1]
  unfold mayN
  rw [if_neg (by simp [szN])]
  show firstE 1 [[lastR n]] = 10
  unfold firstE
  rw [if_pos (by rw [h2]; decide), h2]
theorem dj_symm {a b : Option Nat} (h : a = none ∨ a ≠ b) : b = none ∨ b ≠ a := by
  rcases h with rfl | h
  · cases b with
    | none => exact .inl rfl
    | some x => exact .inr (by simp)
  · exact .inr (Ne.symm h)
theorem dj_new {a x y : Option Nat} {n : Nat} (h : a = none ∨ a ≠ x) (hy : y = x ∨ y = some n) (ha : ∀ q, a = some q → q < n) : a = none ∨ a ≠ y := by
  rcases hy with rfl | rfl
  · exact h
  · cases a with
    | none => exact .inl rfl
    | some q => exact .inr (fun e => by injection e with e; have := ha q rfl; omega)
theorem own_blk {w : World} {base e size n : Nat} {v : Value} {xs : List Value} {g : Nat} {cs : Array Value} {t : TypeId} (h : w.ownsRow base e size v n xs) (hg : Blk g cs t w) (hne : e ≠ t) : v.ownBlock ≠ some g := fun hh => by
  rcases h.2 with ⟨rfl, _⟩ | ⟨g', cap, cur, rfl, _, hg', _⟩
  · cases hh
  · simp only [Value.ownBlock, Option.some.injEq] at hh
    subst hh
    have h2 : w.heap[g']? = some (.cells cs t (0, 0)) := hg
    rw [hg'] at h2
    injection h2 with h2
    injection h2 with _ h3
    exact hne h3
theorem RowsOwn.nils (base M : Nat) (w : World) : RowsOwn base (List.replicate M []) (List.replicate M (.slice none 0 0)) w :=
  ⟨by simp, fun i h1 h2 => by simp only [List.getElem_replicate]; exact ⟨rfl, .inl ⟨rfl, rfl⟩⟩⟩
theorem made_nils (M : Nat) : (madeCells (Value.slice none 0 0).cells (M * 1)).toList = List.replicate M (Value.slice none 0 0) := by
  rw [Nat.mul_one]
  exact toList_madeCells_one (.slice none 0 0) M
set_option maxRecDepth 100000 in
set_option maxHeartbeats 8000000 in
theorem walkNetworkMay (a0 a1 : Int) (w : World) (w0 : (Lit.int .u8 a0).wf = true) (w1 : (Lit.int .u8 a1).wf = true) :
    Calls Try.prog 6 #[.int .u8 a0, .int .u8 a1] w fun e w' => e = .returned (.bool true) ∧ Below w.heap.size w w' := by
  obtain ⟨hl0, hh0⟩ := bounds_u8 w0
  obtain ⟨p, rfl⟩ := Int.eq_ofNat_of_zero_le hl0
  have hp : (p : Int) ≤ 255 := by omega
  clear w0 hl0 hh0
  obtain ⟨hl1, hh1⟩ := bounds_u8 w1
  obtain ⟨q, rfl⟩ := Int.eq_ofNat_of_zero_le hl1
  have hq : (q : Int) ≤ 255 := by omega
  clear w1 hl1 hh1
  obtain ⟨P, hP⟩ : ∃ P, p % 31 = P := ⟨_, rfl⟩
  have hP32 : (P : Int) ≤ 30 := by omega
  have hPM : (p : Int) % 31 = (P : Int) := by omega
  obtain ⟨Q, hQ⟩ : ∃ Q, q % 31 = Q := ⟨_, rfl⟩
  have hQ32 : (Q : Int) ≤ 30 := by omega
  have hQM : (q : Int) % 31 = (Q : Int) := by omega
  obtain ⟨N1, hN1⟩ : ∃ N, 240 + P = N := ⟨_, rfl⟩
  obtain ⟨ND, hND⟩ : ∃ N, N1 + 1 = N := ⟨_, rfl⟩
  have hNW : IntKind.i64.wrap (241 + (P : Int)) = (ND : Int) := by rw [IntKind.wrap_i64]; omega
  have hN1W : IntKind.i64.wrap ((ND : Int) - 1) = (N1 : Int) := by rw [IntKind.wrap_i64]; omega
  obtain ⟨R, hR⟩ : ∃ R, 4081 + Q = R := ⟨_, rfl⟩
  have hRW : IntKind.i64.wrap (4081 + (Q : Int)) = (R : Int) := by rw [IntKind.wrap_i64]; omega
  have hND0 : (0 : Int) < (ND : Int) := by omega
  have hND2 : (ND : Int) ≤ 271 := by omega
  have hN10 : (240 : Int) ≤ (N1 : Int) := by omega
  have hR2 : (R : Int) ≤ 4111 := by omega
  have HND := Lib.hid hND
  have HII := Lib.hid row_info
  have HRI := Lib.hid rule_info
  clear hP hQ hN1 hND hR
  have HB0 := Lib.hid (Below.refl w.heap.size w)
  go_enter Try.func6, Try.ntmps6
  go_wp2_with fail
  refine (shown9 w).mono ?_
  rintro e1 w1 ⟨rfl, hb⟩
  have HB1 := Lib.hid (HB0.out.trans (hb.mono HB0.out.size))
  clear hb HB0
  go_upto_region 4 with fail
  clear hPM hQM hNW hRW
  obtain ⟨j0, hj0, jz0, jz1, jz2⟩ := info_parts HII.out
  go_upto_region 5 with (first
    | (at_make; refine wpList_make_full _ rfl (.tmp 24) (.tmp 24) _ rfl w1.heap.size 42 j0 (.slice none 0 0) 1 Try.underlying22 hj0 jz0 jz1 .i64 .i64 (ND : Int) (ND : Int) ND rfl rfl rfl rfl (by rw [jz2]; omega) (by unfold maxLen; omega) (Nat.le_refl _) ?_; intro w5 hown5 hgrow5))
  obtain ⟨g1, hg1⟩ : ∃ g, w1.heap.size = g := ⟨_, rfl⟩
  rw [made_nils] at hown5
  have hB5 : Below w1.heap.size w1 w5 := (Below.refl w1.heap.size w1).grown hgrow5 (Nat.le_refl _) (fun q hq => by cases hq)
  have L1 : w.heap.size ≤ w1.heap.size := HB1.out.size
  have HB0 : Hid (Below w.heap.size w (w5.alloc (.cells #[.slice (some ⟨g1, 0, none⟩) ND ND] 24))) := by
    subst hg1
    exact (HB1.out.trans (hB5.mono L1)).alloc (by have := hB5.size; omega) _
  have ON : Hid ((w5.alloc (.cells #[.slice (some ⟨g1, 0, none⟩) ND ND] 24)).ownsRow w.heap.size 42 1 (.slice (some ⟨g1, 0, none⟩) ND ND) ND (List.replicate ND (.slice none 0 0))) := by
    subst hg1
    exact own_base (own_bel hown5 ((Below.refl _ _).alloc (Nat.le_refl _) _)) L1
  have K8 : Hid (Blk w5.heap.size #[.slice (some ⟨g1, 0, none⟩) ND ND] 24 (w5.alloc (.cells #[.slice (some ⟨g1, 0, none⟩) ND ND] 24))) := Blk.new w5 _ _
  have hg15 : g1 < w5.heap.size := by
    subst hg1
    exact (hown5.lt _ rfl).2
  have hg1w : w.heap.size ≤ g1 := by omega
  rw [hg1]
  obtain ⟨B8, hB8⟩ : ∃ B, w5.heap.size = B := ⟨_, rfl⟩
  rw [hB8] at K8 hg15 ⊢
  clear hB8 hown5 hgrow5 hB5 hg1 L1 HB1
  generalize w5.alloc (.cells #[.slice (some ⟨g1, 0, none⟩) ND ND] 24) = w6 at *
  have OA : Hid ((w6.alloc (.cells #[.int .u32 0, .int .i64 0, .int .i64 1, .int .i64 (N1 : Int)] 46)).ownsRow w.heap.size 42 1 (.slice (some ⟨g1, 0, none⟩) ND ND) ND (List.replicate ND (.slice none 0 0))) := own_bel ON.out ((Below.refl _ _).alloc (Nat.le_refl _) _)
  obtain ⟨gl, hgl⟩ : ∃ g, w6.heap.size = g := ⟨_, rfl⟩
  have HLT : Hid (OwnR 46 w.heap.size (.slice (some ⟨gl, 0, none⟩) 1 1) [lastR N1] (w6.alloc (.cells #[.int .u32 0, .int .i64 0, .int .i64 1, .int .i64 (N1 : Int)] 46))) := by
    subst hgl
    exact World.ownsRow_lit (e := 46) (size := 4) w6 #[.int .u32 0, .int .i64 0, .int .i64 1, .int .i64 (N1 : Int)] 1 HB0.out.size (by decide) rfl
  have K8a : Hid (Blk B8 #[.slice (some ⟨g1, 0, none⟩) ND ND] 24 (w6.alloc (.cells #[.int .u32 0, .int .i64 0, .int .i64 1, .int .i64 (N1 : Int)] 46))) := K8.out.bel ((Below.refl _ _).alloc (Nat.le_refl _) _)
  have HB1 : Hid (Below w.heap.size w (w6.alloc (.cells #[.int .u32 0, .int .i64 0, .int .i64 1, .int .i64 (N1 : Int)] 46))) := HB0.out.alloc HB0.out.size _
  go_upto_region 6 with fail
  clear HB0 ON K8 hgl
  generalize w6.alloc (.cells #[.int .u32 0, .int .i64 0, .int .i64 1, .int .i64 (N1 : Int)] 46) = w7 at *
  have hcell : w7.cell? ⟨g1, 0, none⟩ = some (.slice none 0 0) := (OA.out.cellAt (j := 0) (by omega)).trans (by rw [List.getElem?_replicate, if_pos (by omega)])
  have hfro := OA.out.frozenAt 0
  have q8 := K8a.out.cell 0 rfl
  have hst := OA.out.stored 0 (.slice (some ⟨gl, 0, none⟩) 1 1)
  have RW : RowsOwn w.heap.size (wideN N1) ((List.replicate ND (.slice none 0 0)).set 0 (.slice (some ⟨gl, 0, none⟩) 1 1)) w7 := by
    rw [← HND.out, List.replicate_succ]
    show RowsOwn w.heap.size ([lastR N1] :: List.replicate N1 []) (.slice (some ⟨gl, 0, none⟩) 1 1 :: List.replicate N1 (.slice none 0 0)) w7
    have h0 := RowsOwn.nils w.heap.size N1 w7
    refine ⟨by simp, fun i h1 h2 => ?_⟩
    match i, h1, h2 with
    | 0, _, _ => exact HLT.out
    | i + 1, h1, h2 => exact h0.2 i (by simpa using h1) (by simpa using h2)
  have VW : Hid (IsN (w7.setCell ⟨g1, 0, none⟩ (.slice (some ⟨gl, 0, none⟩) 1 1)) (.agg #[.slice (some ⟨g1, 0, none⟩) ND ND]) (wideN N1)) := ((RW.grown OA.out hst.2).isS hst.1).mk
  have VL : Hid (IsR (w7.setCell ⟨g1, 0, none⟩ (.slice (some ⟨gl, 0, none⟩) 1 1)) (.slice (some ⟨gl, 0, none⟩) 1 1) [lastR N1]) := IsR.of_own (World.ownsRow.kept HLT.out hst.2 (own_apart OA.out HLT.out))
  have K8 : Hid (Blk B8 #[.slice (some ⟨g1, 0, none⟩) ND ND] 24 (w7.setCell ⟨g1, 0, none⟩ (.slice (some ⟨gl, 0, none⟩) 1 1))) := K8a.out.far g1 0 _ (by omega)
  have HB2 : Hid (Below w.heap.size w (w7.setCell ⟨g1, 0, none⟩ (.slice (some ⟨gl, 0, none⟩) 1 1))) := HB1.out.setCell (p := ⟨g1, 0, none⟩) hg1w _
  go_upto_region 7 with fail
  clear hcell hfro q8 hst RW OA HLT K8a HB1 hg1w hg15
  generalize w7.setCell ⟨g1, 0, none⟩ (.slice (some ⟨gl, 0, none⟩) 1 1) = wm at *
  go_upto_region 8 with (first
    | (at_make; refine wpList_make_full _ rfl (.const (.int .i64 2)) (.const (.int .i64 2)) _ rfl wm.heap.size 42 j0 (.slice none 0 0) 1 Try.underlying22 hj0 jz0 jz1 .i64 .i64 2 2 2 rfl rfl rfl rfl (by rw [jz2]; omega) (by unfold maxLen; omega) (Nat.le_refl _) ?_; intro w9 hown9 hgrow9))
  obtain ⟨gd, hgd⟩ : ∃ g, wm.heap.size = g := ⟨_, rfl⟩
  rw [made_nils] at hown9
  have hB9 : Below wm.heap.size wm w9 := (Below.refl wm.heap.size wm).grown hgrow9 (Nat.le_refl _) (fun q hq => by cases hq)
  have HBD : Hid (Below wm.heap.size wm (w9.alloc (.cells #[.slice (some ⟨gd, 0, none⟩) 2 2] 24))) := hB9.alloc hB9.size _
  have OD : Hid ((w9.alloc (.cells #[.slice (some ⟨gd, 0, none⟩) 2 2] 24)).ownsRow wm.heap.size 42 1 (.slice (some ⟨gd, 0, none⟩) 2 2) 2 [.slice none 0 0, .slice none 0 0]) := by
    subst hgd
    exact own_bel hown9 ((Below.refl _ _).alloc (Nat.le_refl _) _)
  have KD : Hid (Blk w9.heap.size #[.slice (some ⟨gd, 0, none⟩) 2 2] 24 (w9.alloc (.cells #[.slice (some ⟨gd, 0, none⟩) 2 2] 24))) := Blk.new w9 _ _
  have hgdl : gd < w9.heap.size := by
    subst hgd
    exact (hown9.lt _ rfl).2
  have HGD : Hid (wm.heap.size = gd) := hgd
  rw [hgd]
  obtain ⟨B10, hB10⟩ : ∃ B, w9.heap.size = B := ⟨_, rfl⟩
  rw [hB10] at KD hgdl ⊢
  have HNE : Hid (gd < B10) := hgdl
  clear hB10 hown9 hgrow9 hB9 hgd hgdl hj0 jz0 jz1 jz2
  generalize w9.alloc (.cells #[.slice (some ⟨gd, 0, none⟩) 2 2] 24) = wn at *
  obtain ⟨i0, hi0, hz0, hz1, hz2⟩ := info_parts HRI.out
  have nil_own : ∀ W : World, OwnR 46 wm.heap.size (.slice none 0 0) [] W := fun W => ⟨rfl, .inl ⟨rfl, rfl⟩⟩
  go_wp2_with fail
  go_loopw [11] (fun i wr => ∃ (k : Nat) (x0 x1 : Value), k ≤ R ∧ i = .int .i64 k ∧ Hid (Blk B10 #[.slice (some ⟨gd, 0, none⟩) 2 2] 24 wr) ∧ Hid (wr.ownsRow wm.heap.size 42 1 (.slice (some ⟨gd, 0, none⟩) 2 2) 2 [x0, x1]) ∧ Hid (OwnR 46 wm.heap.size x0 (tabB 0 k) wr) ∧ Hid (OwnR 46 wm.heap.size x1 (tabB 1 k) wr) ∧ Hid (x0.ownBlock = none ∨ x0.ownBlock ≠ x1.ownBlock) ∧ Hid (Below wm.heap.size wm wr)) (fun i _ => R - (intOf i).toNat)
  case atStart => exact ⟨0, _, _, by omega, rfl, KD, OD, nil_own _, nil_own _, .inl rfl, HBD⟩
  case round =>
    clear KD OD HBD nil_own
    obtain ⟨k, x0, x1, hk, rfl, KD, OD, O0, O1, HDJ, HBD⟩ := hrel
    by_cases hlt : k < R
    · have hki : (k : Int) < (R : Int) := by omega
      have hkz : (0 : Int) ≤ (k : Int) := by omega
      rcases (by omega : k % 2 = 0 ∨ k % 2 = 1) with hb | hb
      · have hw2 : Int.tmod (k : Int) 2 = 0 := by rw [Int.tmod_eq_emod_of_nonneg (by omega)]; omega
        have hw3 : (k : Int) % 2 = 0 := by omega
        have hty := tab_yes hb
        have htn := tab_no (b := 1) (i := k) (by omega)
        obtain ⟨Tb, hTb⟩ : ∃ T, tabB 0 k = T := ⟨_, rfl⟩
        have hlen : Tb.length ≤ 4111 := by have := tab_len k; rw [← hTb]; omega
        rw [hTb] at O0 hty
        obtain ⟨AX, cX, rfl, _, _, _⟩ := O0.out.isr.slice
        obtain ⟨nX, hnX⟩ : ∃ n, Tb.length = n := ⟨_, rfl⟩
        have hnX2 : (nX : Int) ≤ 4111 := by omega
        rw [hnX] at O0 OD HDJ
        have HTY := Lib.hid hty
        have HTN := Lib.hid htn
        have HNX := Lib.hid hnX
        have hcv : IntKind.u32.wrap (k : Int) = (k : Int) := by rw [IntKind.wrap_u32]; omega
        have hcell : wr.cell? ⟨gd, 0, none⟩ = some (.slice AX nX cX) := (OD.out.cellAt (j := 0) (by omega)).trans rfl
        have q0 := KD.out.cell 0 rfl
        clear hb hty htn hTb hnX hlen
        go_upto_region 11 with fail
        have HOX : Hid (wr.ownsRow wm.heap.size 46 4 (.slice AX nX cX) nX (rcells Tb)) := by
          have h := O0.out
          unfold OwnR at h
          rw [HNX.out] at h
          exact h
        have p2 : wr.drew.cell? ⟨gd, 0, none⟩ = some (.slice AX nX cX) := hcell
        have D9 : Below wr.heap.size wr ((wr.alloc (.cells #[.int .u32 (k : Int), .int .i64 32, .int .i64 3, .int .i64 0] 46)).drew) := ((Below.refl _ _).alloc (Nat.le_refl _) _).drew
        have p3 : ((wr.alloc (.cells #[.int .u32 (k : Int), .int .i64 32, .int .i64 3, .int .i64 0] 46)).drew).cell? ⟨gd, 0, none⟩ = some (.slice AX nX cX) := ((own_bel OD.out D9).cellAt (j := 0) (by omega)).trans rfl
        have HDY : Hid (x1.ownBlock = none ∨ x1.ownBlock ≠ (Value.slice AX nX cX).ownBlock) := dj_symm HDJ.out
        clear hcell q0
        refine wp_region_held_drew (S := fun w' => w'.cell? ⟨B10, 0, none⟩ = some (.slice (some ⟨gd, 0, none⟩) 2 2)) (by kernel_rfl) (KD.out.cell 0 rfl) (fun hHeld => ?_)
        refine wpAnyH_take (i := 0) (oi := ({ dst := some 42, op := Op.fieldAddr 24 (Operand.tmp 10) 0, type := 0, pos := "law.go:118", after := #[], guard := none } : Oper)) (v := ?_) rfl (by kernel_rfl) (by kernel_rfl) (by kernel_rfl) (fun _ _ _ h => h) (Or.inl ⟨by rfl, ?_⟩) (by assumption) ?_
        rotate_left 1
        · intro w hSw
          (try dsimp only at hSw)
          go_simp
          try with_reducible rfl
        try simp only [Act.put, List.setIfInBounds_toArray, List.set_cons_zero, List.set_cons_succ]
        refine wpAnyH_take (i := 1) (oi := ({ dst := some 43, op := Op.load 22 (Operand.tmp 42), type := 22, pos := "law.go:118", after := #[{ on := 0, ground := Ground.data }], guard := none } : Oper)) (v := ?_) rfl (by kernel_rfl) (by kernel_rfl) (by kernel_rfl) (fun _ _ _ h => h) (Or.inl ⟨by rfl, ?_⟩) (by assumption) ?_
        rotate_left 1
        · intro w hSw
          (try dsimp only at hSw)
          go_simp
          try with_reducible rfl
        try simp only [Act.put, List.setIfInBounds_toArray, List.set_cons_zero, List.set_cons_succ]
        refine wpAnyH_take (i := 2) (oi := ({ dst := some 44, op := Op.move (Operand.tmp 11), type := 3, pos := "law.go:118", after := #[], guard := none } : Oper)) (v := ?_) rfl (by kernel_rfl) (by kernel_rfl) (by kernel_rfl) (fun _ _ _ h => h) (Or.inl ⟨by rfl, ?_⟩) (by assumption) ?_
        rotate_left 1
        · intro w hSw
          (try dsimp only at hSw)
          go_simp
          try with_reducible rfl
        try simp only [Act.put, List.setIfInBounds_toArray, List.set_cons_zero, List.set_cons_succ]
        refine wpAnyH_take (i := 3) (oi := ({ dst := some 45, op := Op.binOp BinOp.rem 3 (Operand.tmp 44) (Operand.const (Value.int IntKind.i64 2)) 3, type := 3, pos := "law.go:118", after := #[{ on := 2, ground := Ground.data }], guard := none } : Oper)) (v := ?_) rfl (by kernel_rfl) (by kernel_rfl) (by kernel_rfl) (fun _ _ _ h => h) (Or.inl ⟨by rfl, ?_⟩) (by assumption) ?_
        rotate_left 1
        · intro w hSw
          (try dsimp only at hSw)
          go_simp
          try with_reducible rfl
        try simp only [Act.put, List.setIfInBounds_toArray, List.set_cons_zero, List.set_cons_succ]
        refine wpAnyH_take (i := 4) (oi := ({ dst := some 46, op := Op.fieldAddr 24 (Operand.tmp 10) 0, type := 0, pos := "law.go:118", after := #[], guard := none } : Oper)) (v := ?_) rfl (by kernel_rfl) (by kernel_rfl) (by kernel_rfl) (fun _ _ _ h => h) (Or.inl ⟨by rfl, ?_⟩) (by assumption) ?_
        rotate_left 1
        · intro w hSw
          (try dsimp only at hSw)
          go_simp
          try with_reducible rfl
        try simp only [Act.put, List.setIfInBounds_toArray, List.set_cons_zero, List.set_cons_succ]
        refine wpAnyH_take (i := 5) (oi := ({ dst := some 47, op := Op.load 22 (Operand.tmp 46), type := 22, pos := "law.go:118", after := #[{ on := 4, ground := Ground.data }], guard := none } : Oper)) (v := ?_) rfl (by kernel_rfl) (by kernel_rfl) (by kernel_rfl) (fun _ _ _ h => h) (Or.inl ⟨by rfl, ?_⟩) (by assumption) ?_
        rotate_left 1
        · intro w hSw
          (try dsimp only at hSw)
          go_simp
          try with_reducible rfl
        try simp only [Act.put, List.setIfInBounds_toArray, List.set_cons_zero, List.set_cons_succ]
        refine wpAnyH_take (i := 6) (oi := ({ dst := some 48, op := Op.move (Operand.tmp 11), type := 3, pos := "law.go:118", after := #[], guard := none } : Oper)) (v := ?_) rfl (by kernel_rfl) (by kernel_rfl) (by kernel_rfl) (fun _ _ _ h => h) (Or.inl ⟨by rfl, ?_⟩) (by assumption) ?_
        rotate_left 1
        · intro w hSw
          (try dsimp only at hSw)
          go_simp
          try with_reducible rfl
        try simp only [Act.put, List.setIfInBounds_toArray, List.set_cons_zero, List.set_cons_succ]
        refine wpAnyH_take (i := 7) (oi := ({ dst := some 49, op := Op.binOp BinOp.rem 3 (Operand.tmp 48) (Operand.const (Value.int IntKind.i64 2)) 3, type := 3, pos := "law.go:118", after := #[{ on := 6, ground := Ground.data }], guard := none } : Oper)) (v := ?_) rfl (by kernel_rfl) (by kernel_rfl) (by kernel_rfl) (fun _ _ _ h => h) (Or.inl ⟨by rfl, ?_⟩) (by assumption) ?_
        rotate_left 1
        · intro w hSw
          (try dsimp only at hSw)
          go_simp
          try with_reducible rfl
        try simp only [Act.put, List.setIfInBounds_toArray, List.set_cons_zero, List.set_cons_succ]
        refine wpAnyH_take (i := 8) (oi := ({ dst := some 50, op := Op.indexAddr 22 (Operand.tmp 47) (Operand.tmp 49), type := 0, pos := "law.go:118", after := #[{ on := 5, ground := Ground.data }, { on := 7, ground := Ground.data }], guard := none } : Oper)) (v := ?_) rfl (by kernel_rfl) (by kernel_rfl) (by kernel_rfl) (fun _ _ _ h => h) (Or.inl ⟨by rfl, ?_⟩) (by assumption) ?_
        rotate_left 1
        · intro w hSw
          (try dsimp only at hSw)
          go_simp
          try with_reducible rfl
        try simp only [Act.put, List.setIfInBounds_toArray, List.set_cons_zero, List.set_cons_succ]
        refine wpAnyH_take (i := 10) (oi := ({ dst := some 52, op := Op.move (Operand.tmp 11), type := 3, pos := "law.go:118", after := #[], guard := none } : Oper)) (v := ?_) rfl (by kernel_rfl) (by kernel_rfl) (by kernel_rfl) (fun _ _ _ h => h) (Or.inl ⟨by rfl, ?_⟩) (by assumption) ?_
        rotate_left 1
        · intro w hSw
          (try dsimp only at hSw)
          go_simp
          try with_reducible rfl
        try simp only [Act.put, List.setIfInBounds_toArray, List.set_cons_zero, List.set_cons_succ]
        refine wpAnyH_take (i := 11) (oi := ({ dst := some 53, op := Op.convert 3 25 (Operand.tmp 52), type := 25, pos := "law.go:118", after := #[{ on := 10, ground := Ground.data }], guard := none } : Oper)) (v := ?_) rfl (by kernel_rfl) (by kernel_rfl) (by kernel_rfl) (fun _ _ _ h => h) (Or.inl ⟨by rfl, ?_⟩) (by assumption) ?_
        rotate_left 1
        · intro w hSw
          (try dsimp only at hSw)
          go_simp
          try with_reducible rfl
        try simp only [Act.put, List.setIfInBounds_toArray, List.set_cons_zero, List.set_cons_succ]
        refine wpAnyH_take (i := 12) (oi := ({ dst := some 54, op := Op.build 46 #[(0, Operand.tmp 53), (1, Operand.const (Value.int IntKind.i64 32)), (2, Operand.const (Value.int IntKind.i64 3))], type := 46, pos := "law.go:118", after := #[{ on := 11, ground := Ground.data }], guard := none } : Oper)) (v := ?_) rfl (by kernel_rfl) (by kernel_rfl) (by kernel_rfl) (fun _ _ _ h => h) (Or.inl ⟨by rfl, ?_⟩) (by assumption) ?_
        rotate_left 1
        · intro w hSw
          (try dsimp only at hSw)
          go_simp
          try with_reducible rfl
        try simp only [Act.put, List.setIfInBounds_toArray, List.set_cons_zero, List.set_cons_succ]
        refine wpAnyH_ready (rs := [9, 13]) (by kernel_rfl) (by simp) ?_
        refine AllReadyH.cons rfl (fun K hK => ?_) (AllReadyH.cons rfl (fun K hK => ?_) AllReadyH.nil)
        · go_simp
          refine hK.out _ _ (by assumption) (fun hHeld => ?_)
          clear hK K
          try simp only [Act.put, List.setIfInBounds_toArray, List.set_cons_zero, List.set_cons_succ]
          refine wpAnyH_ready (rs := [13]) (by kernel_rfl) (by simp) ?_
          refine AllReadyH.cons rfl (fun K hK => ?_) AllReadyH.nil
          go_simp
          refine hK.out _ _ ((KD.out.bel D9).cell 0 rfl) (fun hHeld => ?_)
          clear hK K
          try simp only [Act.put, List.setIfInBounds_toArray, List.set_cons_zero, List.set_cons_succ]
          refine wpAnyH_ready (rs := [14]) (by kernel_rfl) (by simp) ?_
          refine AllReadyH.cons rfl (fun K hK => ?_) AllReadyH.nil
          refine step_append4 _ (by rfl) (.tmp 51) (.tmp 55) _ (by rfl) wm.heap.size 46 i0 (.agg #[.int .u32 0, .int .i64 0, .int .i64 0, .int .i64 0]) 32 Try.underlying42 hi0 hz0 hz1 hz2 rfl (.slice AX nX cX) nX (rcells Tb) (by rfl) (own_bel HOX.out D9) _ 1 _ (rcells [rul k]) (by rfl) rfl (Has.new wr (rcells [rul k]) 46 (0, 0)).drew (rcells_one _) (by unfold maxLen; omega) (by omega) (by have := HBD.out.size; have := D9.size; omega) ?_
          intro v9 w9 hown9 hgrow9 hat9
          obtain ⟨b9, c9, hv9, _, _⟩ := World.ownsRow.form hown9 (by omega)
          subst hv9
          have KD9 := Lib.hid ((KD.out.bel D9).grown hgrow9 (own_blk (own_bel HOX.out D9) (KD.out.bel D9) (by decide)))
          have OD9 := Lib.hid (World.ownsRow.kept (own_bel OD.out D9) hgrow9 (dj_symm (own_apart (own_bel OD.out D9) (own_bel HOX.out D9))))
          have OY9 : Hid (OwnR 46 wm.heap.size x1 (tabB 1 k) w9) := World.ownsRow.kept (O1.out.bel D9) hgrow9 HDY.out
          have HDY9 : Hid (x1.ownBlock = none ∨ x1.ownBlock ≠ (Value.slice (some ⟨b9, 0, none⟩) (nX + 1) c9).ownBlock) := dj_new HDY.out hat9 (fun q hq => Nat.lt_of_lt_of_le (O1.out.lt q hq).2 D9.size)
          have q9 : w9.cell? ⟨gd, 0, none⟩ = some (.slice AX nX cX) := (OD9.out.cellAt (j := 0) (by omega)).trans rfl
          have z9 : w9.frozen? ⟨gd, 0, none⟩ = false := OD9.out.frozenAt 0
          have HB9 : Hid (Below wm.heap.size wm w9) := (HBD.out.trans (D9.mono HBD.out.size)).grown hgrow9 (by have := HBD.out.size; have := D9.size; omega) (fun q hq => (HOX.out.lt q hq).1)
          try go_simp
          refine hK.out _ _ (KD9.out.cell 0 rfl) (fun hHeld => ?_)
          clear hK K
          try simp only [Act.put, List.setIfInBounds_toArray, List.set_cons_zero, List.set_cons_succ]
          refine wpAnyH_take (i := 15) (oi := ({ dst := some 57, op := Op.indexAddr 22 (Operand.tmp 43) (Operand.tmp 45), type := 0, pos := "law.go:118", after := #[{ on := 1, ground := Ground.data }, { on := 3, ground := Ground.data }, { on := 0, ground := Ground.phase }, { on := 1, ground := Ground.phase }, { on := 2, ground := Ground.phase }, { on := 3, ground := Ground.phase }, { on := 4, ground := Ground.phase }, { on := 5, ground := Ground.phase }, { on := 6, ground := Ground.phase }, { on := 7, ground := Ground.phase }, { on := 8, ground := Ground.phase }, { on := 9, ground := Ground.phase }, { on := 10, ground := Ground.phase }, { on := 11, ground := Ground.phase }, { on := 12, ground := Ground.phase }, { on := 13, ground := Ground.phase }, { on := 14, ground := Ground.phase }], guard := none } : Oper)) (v := ?_) rfl (by kernel_rfl) (by kernel_rfl) (by kernel_rfl) (fun _ _ _ h => h) (Or.inl ⟨by rfl, ?_⟩) (by assumption) ?_
          rotate_left 1
          · intro w hSw
            (try dsimp only at hSw)
            go_simp
            try with_reducible rfl
          try simp only [Act.put, List.setIfInBounds_toArray, List.set_cons_zero, List.set_cons_succ]
          refine wpAnyH_ready (rs := [16]) (by kernel_rfl) (by simp) ?_
          refine AllReadyH.cons rfl (fun K hK => ?_) AllReadyH.nil
          go_simp
          refine hK.out _ _ ((KD9.out.far gd 0 _ (by have := HNE.out; omega)).cell 0 rfl) (fun hHeld => ?_)
          clear hK K
          try simp only [Act.put, List.setIfInBounds_toArray, List.set_cons_zero, List.set_cons_succ]
          refine wpAnyH_done (by kernel_rfl) ?_ _
          have hst := OD9.out.stored 0 (Value.slice (some ⟨b9, 0, none⟩) (nX + 1) c9)
          have KD10 : Hid (Blk B10 #[.slice (some ⟨gd, 0, none⟩) 2 2] 24 (w9.setCell ⟨gd, 0, none⟩ (Value.slice (some ⟨b9, 0, none⟩) (nX + 1) c9))) := KD9.out.far gd 0 _ (by have := HNE.out; omega)
          have OD10 : Hid ((w9.setCell ⟨gd, 0, none⟩ (Value.slice (some ⟨b9, 0, none⟩) (nX + 1) c9)).ownsRow wm.heap.size 42 1 (.slice (some ⟨gd, 0, none⟩) 2 2) 2 [(Value.slice (some ⟨b9, 0, none⟩) (nX + 1) c9), x1]) := hst.1
          have OX10 : Hid (OwnR 46 wm.heap.size (Value.slice (some ⟨b9, 0, none⟩) (nX + 1) c9) (tabB 0 (k + 1)) (w9.setCell ⟨gd, 0, none⟩ (Value.slice (some ⟨b9, 0, none⟩) (nX + 1) c9))) := by
            show OwnR _ _ _ _ _
            rw [HTY.out]
            have h := World.ownsRow.kept hown9 hst.2 (own_apart OD9.out hown9)
            rw [← rcells_append] at h
            exact OwnR.mk h (Nat.le_refl _)
          have OY10 : Hid (OwnR 46 wm.heap.size x1 (tabB 1 (k + 1)) (w9.setCell ⟨gd, 0, none⟩ (Value.slice (some ⟨b9, 0, none⟩) (nX + 1) c9))) := by
            show OwnR _ _ _ _ _
            rw [HTN.out]
            exact World.ownsRow.kept OY9.out hst.2 (own_apart OD9.out OY9.out)
          have HDJ10 : Hid ((Value.slice (some ⟨b9, 0, none⟩) (nX + 1) c9).ownBlock = none ∨ (Value.slice (some ⟨b9, 0, none⟩) (nX + 1) c9).ownBlock ≠ x1.ownBlock) := dj_symm HDY9.out
          have HB10 : Hid (Below wm.heap.size wm (w9.setCell ⟨gd, 0, none⟩ (Value.slice (some ⟨b9, 0, none⟩) (nX + 1) c9))) := HB9.out.setCell (p := ⟨gd, 0, none⟩) (by have := HGD.out; show _ ≤ gd; omega) _
          clear hst hown9 hgrow9 hat9 KD9 OD9 OY9 HDY9 q9 z9 HB9 p2 p3 D9 HOX HDY KD OD O0 O1 HDJ HBD HTY HTN HNX hi0 hz0 hz1 hz2 hw2 hw3 hcv
          go_wp2_with fail
          go_roundw
          case rel => exact ⟨k + 1, (Value.slice (some ⟨b9, 0, none⟩) (nX + 1) c9), x1, by omega, by go_num, KD10, OD10, OX10, OY10, HDJ10, HB10⟩
          case measure => simp [intOf]; omega
        · go_simp
          refine hK.out _ _ ((KD.out.bel D9).cell 0 rfl) (fun hHeld => ?_)
          clear hK K
          try simp only [Act.put, List.setIfInBounds_toArray, List.set_cons_zero, List.set_cons_succ]
          refine wpAnyH_ready (rs := [9]) (by kernel_rfl) (by simp) ?_
          refine AllReadyH.cons rfl (fun K hK => ?_) AllReadyH.nil
          go_simp
          refine hK.out _ _ (by assumption) (fun hHeld => ?_)
          clear hK K
          try simp only [Act.put, List.setIfInBounds_toArray, List.set_cons_zero, List.set_cons_succ]
          refine wpAnyH_ready (rs := [14]) (by kernel_rfl) (by simp) ?_
          refine AllReadyH.cons rfl (fun K hK => ?_) AllReadyH.nil
          refine step_append4 _ (by rfl) (.tmp 51) (.tmp 55) _ (by rfl) wm.heap.size 46 i0 (.agg #[.int .u32 0, .int .i64 0, .int .i64 0, .int .i64 0]) 32 Try.underlying42 hi0 hz0 hz1 hz2 rfl (.slice AX nX cX) nX (rcells Tb) (by rfl) (own_bel HOX.out D9) _ 1 _ (rcells [rul k]) (by rfl) rfl (Has.new wr (rcells [rul k]) 46 (0, 0)).drew (rcells_one _) (by unfold maxLen; omega) (by omega) (by have := HBD.out.size; have := D9.size; omega) ?_
          intro v9 w9 hown9 hgrow9 hat9
          obtain ⟨b9, c9, hv9, _, _⟩ := World.ownsRow.form hown9 (by omega)
          subst hv9
          have KD9 := Lib.hid ((KD.out.bel D9).grown hgrow9 (own_blk (own_bel HOX.out D9) (KD.out.bel D9) (by decide)))
          have OD9 := Lib.hid (World.ownsRow.kept (own_bel OD.out D9) hgrow9 (dj_symm (own_apart (own_bel OD.out D9) (own_bel HOX.out D9))))
          have OY9 : Hid (OwnR 46 wm.heap.size x1 (tabB 1 k) w9) := World.ownsRow.kept (O1.out.bel D9) hgrow9 HDY.out
          have HDY9 : Hid (x1.ownBlock = none ∨ x1.ownBlock ≠ (Value.slice (some ⟨b9, 0, none⟩) (nX + 1) c9).ownBlock) := dj_new HDY.out hat9 (fun q hq => Nat.lt_of_lt_of_le (O1.out.lt q hq).2 D9.size)
          have q9 : w9.cell? ⟨gd, 0, none⟩ = some (.slice AX nX cX) := (OD9.out.cellAt (j := 0) (by omega)).trans rfl
          have z9 : w9.frozen? ⟨gd, 0, none⟩ = false := OD9.out.frozenAt 0
          have HB9 : Hid (Below wm.heap.size wm w9) := (HBD.out.trans (D9.mono HBD.out.size)).grown hgrow9 (by have := HBD.out.size; have := D9.size; omega) (fun q hq => (HOX.out.lt q hq).1)
          try go_simp
          refine hK.out _ _ (KD9.out.cell 0 rfl) (fun hHeld => ?_)
          clear hK K
          try simp only [Act.put, List.setIfInBounds_toArray, List.set_cons_zero, List.set_cons_succ]
          refine wpAnyH_take (i := 15) (oi := ({ dst := some 57, op := Op.indexAddr 22 (Operand.tmp 43) (Operand.tmp 45), type := 0, pos := "law.go:118", after := #[{ on := 1, ground := Ground.data }, { on := 3, ground := Ground.data }, { on := 0, ground := Ground.phase }, { on := 1, ground := Ground.phase }, { on := 2, ground := Ground.phase }, { on := 3, ground := Ground.phase }, { on := 4, ground := Ground.phase }, { on := 5, ground := Ground.phase }, { on := 6, ground := Ground.phase }, { on := 7, ground := Ground.phase }, { on := 8, ground := Ground.phase }, { on := 9, ground := Ground.phase }, { on := 10, ground := Ground.phase }, { on := 11, ground := Ground.phase }, { on := 12, ground := Ground.phase }, { on := 13, ground := Ground.phase }, { on := 14, ground := Ground.phase }], guard := none } : Oper)) (v := ?_) rfl (by kernel_rfl) (by kernel_rfl) (by kernel_rfl) (fun _ _ _ h => h) (Or.inl ⟨by rfl, ?_⟩) (by assumption) ?_
          rotate_left 1
          · intro w hSw
            (try dsimp only at hSw)
            go_simp
            try with_reducible rfl
          try simp only [Act.put, List.setIfInBounds_toArray, List.set_cons_zero, List.set_cons_succ]
          refine wpAnyH_ready (rs := [16]) (by kernel_rfl) (by simp) ?_
          refine AllReadyH.cons rfl (fun K hK => ?_) AllReadyH.nil
          go_simp
          refine hK.out _ _ ((KD9.out.far gd 0 _ (by have := HNE.out; omega)).cell 0 rfl) (fun hHeld => ?_)
          clear hK K
          try simp only [Act.put, List.setIfInBounds_toArray, List.set_cons_zero, List.set_cons_succ]
          refine wpAnyH_done (by kernel_rfl) ?_ _
          have hst := OD9.out.stored 0 (Value.slice (some ⟨b9, 0, none⟩) (nX + 1) c9)
          have KD10 : Hid (Blk B10 #[.slice (some ⟨gd, 0, none⟩) 2 2] 24 (w9.setCell ⟨gd, 0, none⟩ (Value.slice (some ⟨b9, 0, none⟩) (nX + 1) c9))) := KD9.out.far gd 0 _ (by have := HNE.out; omega)
          have OD10 : Hid ((w9.setCell ⟨gd, 0, none⟩ (Value.slice (some ⟨b9, 0, none⟩) (nX + 1) c9)).ownsRow wm.heap.size 42 1 (.slice (some ⟨gd, 0, none⟩) 2 2) 2 [(Value.slice (some ⟨b9, 0, none⟩) (nX + 1) c9), x1]) := hst.1
          have OX10 : Hid (OwnR 46 wm.heap.size (Value.slice (some ⟨b9, 0, none⟩) (nX + 1) c9) (tabB 0 (k + 1)) (w9.setCell ⟨gd, 0, none⟩ (Value.slice (some ⟨b9, 0, none⟩) (nX + 1) c9))) := by
            show OwnR _ _ _ _ _
            rw [HTY.out]
            have h := World.ownsRow.kept hown9 hst.2 (own_apart OD9.out hown9)
            rw [← rcells_append] at h
            exact OwnR.mk h (Nat.le_refl _)
          have OY10 : Hid (OwnR 46 wm.heap.size x1 (tabB 1 (k + 1)) (w9.setCell ⟨gd, 0, none⟩ (Value.slice (some ⟨b9, 0, none⟩) (nX + 1) c9))) := by
            show OwnR _ _ _ _ _
            rw [HTN.out]
            exact World.ownsRow.kept OY9.out hst.2 (own_apart OD9.out OY9.out)
          have HDJ10 : Hid ((Value.slice (some ⟨b9, 0, none⟩) (nX + 1) c9).ownBlock = none ∨ (Value.slice (some ⟨b9, 0, none⟩) (nX + 1) c9).ownBlock ≠ x1.ownBlock) := dj_symm HDY9.out
          have HB10 : Hid (Below wm.heap.size wm (w9.setCell ⟨gd, 0, none⟩ (Value.slice (some ⟨b9, 0, none⟩) (nX + 1) c9))) := HB9.out.setCell (p := ⟨gd, 0, none⟩) (by have := HGD.out; show _ ≤ gd; omega) _
          clear hst hown9 hgrow9 hat9 KD9 OD9 OY9 HDY9 q9 z9 HB9 p2 p3 D9 HOX HDY KD OD O0 O1 HDJ HBD HTY HTN HNX hi0 hz0 hz1 hz2 hw2 hw3 hcv
          go_wp2_with fail
          go_roundw
          case rel => exact ⟨k + 1, (Value.slice (some ⟨b9, 0, none⟩) (nX + 1) c9), x1, by omega, by go_num, KD10, OD10, OX10, OY10, HDJ10, HB10⟩
          case measure => simp [intOf]; omega
      · have hw2 : Int.tmod (k : Int) 2 = 1 := by rw [Int.tmod_eq_emod_of_nonneg (by omega)]; omega
        have hw3 : (k : Int) % 2 = 1 := by omega
        have hty := tab_yes hb
        have htn := tab_no (b := 0) (i := k) (by omega)
        obtain ⟨Tb, hTb⟩ : ∃ T, tabB 1 k = T := ⟨_, rfl⟩
        have hlen : Tb.length ≤ 4111 := by have := tab_len k; rw [← hTb]; omega
        rw [hTb] at O1 hty
        obtain ⟨AX, cX, rfl, _, _, _⟩ := O1.out.isr.slice
        obtain ⟨nX, hnX⟩ : ∃ n, Tb.length = n := ⟨_, rfl⟩
        have hnX2 : (nX : Int) ≤ 4111 := by omega
        rw [hnX] at O1 OD HDJ
        have HTY := Lib.hid hty
        have HTN := Lib.hid htn
        have HNX := Lib.hid hnX
        have hcv : IntKind.u32.wrap (k : Int) = (k : Int) := by rw [IntKind.wrap_u32]; omega
        have hcell : wr.cell? ⟨gd, 1, none⟩ = some (.slice AX nX cX) := (OD.out.cellAt (j := 1) (by omega)).trans rfl
        have q0 := KD.out.cell 0 rfl
        clear hb hty htn hTb hnX hlen
        go_upto_region 11 with fail
        have HOX : Hid (wr.ownsRow wm.heap.size 46 4 (.slice AX nX cX) nX (rcells Tb)) := by
          have h := O1.out
          unfold OwnR at h
          rw [HNX.out] at h
          exact h
        have p2 : wr.drew.cell? ⟨gd, 1, none⟩ = some (.slice AX nX cX) := hcell
        have D9 : Below wr.heap.size wr ((wr.alloc (.cells #[.int .u32 (k : Int), .int .i64 32, .int .i64 3, .int .i64 0] 46)).drew) := ((Below.refl _ _).alloc (Nat.le_refl _) _).drew
        have p3 : ((wr.alloc (.cells #[.int .u32 (k : Int), .int .i64 32, .int .i64 3, .int .i64 0] 46)).drew).cell? ⟨gd, 1, none⟩ = some (.slice AX nX cX) := ((own_bel OD.out D9).cellAt (j := 1) (by omega)).trans rfl
        have HDY : Hid (x0.ownBlock = none ∨ x0.ownBlock ≠ (Value.slice AX nX cX).ownBlock) := HDJ
        clear hcell q0
        refine wp_region_held_drew (S := fun w' => w'.cell? ⟨B10, 0, none⟩ = some (.slice (some ⟨gd, 0, none⟩) 2 2)) (by kernel_rfl) (KD.out.cell 0 rfl) (fun hHeld => ?_)
        refine wpAnyH_take (i := 0) (oi := ({ dst := some 42, op := Op.fieldAddr 24 (Operand.tmp 10) 0, type := 0, pos := "law.go:118", after := #[], guard := none } : Oper)) (v := ?_) rfl (by kernel_rfl) (by kernel_rfl) (by kernel_rfl) (fun _ _ _ h => h) (Or.inl ⟨by rfl, ?_⟩) (by assumption) ?_
        rotate_left 1
        · intro w hSw
          (try dsimp only at hSw)
          go_simp
          try with_reducible rfl
        try simp only [Act.put, List.setIfInBounds_toArray, List.set_cons_zero, List.set_cons_succ]
        refine wpAnyH_take (i := 1) (oi := ({ dst := some 43, op := Op.load 22 (Operand.tmp 42), type := 22, pos := "law.go:118", after := #[{ on := 0, ground := Ground.data }], guard := none } : Oper)) (v := ?_) rfl (by kernel_rfl) (by kernel_rfl) (by kernel_rfl) (fun _ _ _ h => h) (Or.inl ⟨by rfl, ?_⟩) (by assumption) ?_
        rotate_left 1
        · intro w hSw
          (try dsimp only at hSw)
          go_simp
          try with_reducible rfl
        try simp only [Act.put, List.setIfInBounds_toArray, List.set_cons_zero, List.set_cons_succ]
        refine wpAnyH_take (i := 2) (oi := ({ dst := some 44, op := Op.move (Operand.tmp 11), type := 3, pos := "law.go:118", after := #[], guard := none } : Oper)) (v := ?_) rfl (by kernel_rfl) (by kernel_rfl) (by kernel_rfl) (fun _ _ _ h => h) (Or.inl ⟨by rfl, ?_⟩) (by assumption) ?_
        rotate_left 1
        · intro w hSw
          (try dsimp only at hSw)
          go_simp
          try with_reducible rfl
        try simp only [Act.put, List.setIfInBounds_toArray, List.set_cons_zero, List.set_cons_succ]
        refine wpAnyH_take (i := 3) (oi := ({ dst := some 45, op := Op.binOp BinOp.rem 3 (Operand.tmp 44) (Operand.const (Value.int IntKind.i64 2)) 3, type := 3, pos := "law.go:118", after := #[{ on := 2, ground := Ground.data }], guard := none } : Oper)) (v := ?_) rfl (by kernel_rfl) (by kernel_rfl) (by kernel_rfl) (fun _ _ _ h => h) (Or.inl ⟨by rfl, ?_⟩) (by assumption) ?_
        rotate_left 1
        · intro w hSw
          (try dsimp only at hSw)
          go_simp
          try with_reducible rfl
        try simp only [Act.put, List.setIfInBounds_toArray, List.set_cons_zero, List.set_cons_succ]
        refine wpAnyH_take (i := 4) (oi := ({ dst := some 46, op := Op.fieldAddr 24 (Operand.tmp 10) 0, type := 0, pos := "law.go:118", after := #[], guard := none } : Oper)) (v := ?_) rfl (by kernel_rfl) (by kernel_rfl) (by kernel_rfl) (fun _ _ _ h => h) (Or.inl ⟨by rfl, ?_⟩) (by assumption) ?_
        rotate_left 1
        · intro w hSw
          (try dsimp only at hSw)
          go_simp
          try with_reducible rfl
        try simp only [Act.put, List.setIfInBounds_toArray, List.set_cons_zero, List.set_cons_succ]
        refine wpAnyH_take (i := 5) (oi := ({ dst := some 47, op := Op.load 22 (Operand.tmp 46), type := 22, pos := "law.go:118", after := #[{ on := 4, ground := Ground.data }], guard := none } : Oper)) (v := ?_) rfl (by kernel_rfl) (by kernel_rfl) (by kernel_rfl) (fun _ _ _ h => h) (Or.inl ⟨by rfl, ?_⟩) (by assumption) ?_
        rotate_left 1
        · intro w hSw
          (try dsimp only at hSw)
          go_simp
          try with_reducible rfl
        try simp only [Act.put, List.setIfInBounds_toArray, List.set_cons_zero, List.set_cons_succ]
        refine wpAnyH_take (i := 6) (oi := ({ dst := some 48, op := Op.move (Operand.tmp 11), type := 3, pos := "law.go:118", after := #[], guard := none } : Oper)) (v := ?_) rfl (by kernel_rfl) (by kernel_rfl) (by kernel_rfl) (fun _ _ _ h => h) (Or.inl ⟨by rfl, ?_⟩) (by assumption) ?_
        rotate_left 1
        · intro w hSw
          (try dsimp only at hSw)
          go_simp
          try with_reducible rfl
        try simp only [Act.put, List.setIfInBounds_toArray, List.set_cons_zero, List.set_cons_succ]
        refine wpAnyH_take (i := 7) (oi := ({ dst := some 49, op := Op.binOp BinOp.rem 3 (Operand.tmp 48) (Operand.const (Value.int IntKind.i64 2)) 3, type := 3, pos := "law.go:118", after := #[{ on := 6, ground := Ground.data }], guard := none } : Oper)) (v := ?_) rfl (by kernel_rfl) (by kernel_rfl) (by kernel_rfl) (fun _ _ _ h => h) (Or.inl ⟨by rfl, ?_⟩) (by assumption) ?_
        rotate_left 1
        · intro w hSw
          (try dsimp only at hSw)
          go_simp
          try with_reducible rfl
        try simp only [Act.put, List.setIfInBounds_toArray, List.set_cons_zero, List.set_cons_succ]
        refine wpAnyH_take (i := 8) (oi := ({ dst := some 50, op := Op.indexAddr 22 (Operand.tmp 47) (Operand.tmp 49), type := 0, pos := "law.go:118", after := #[{ on := 5, ground := Ground.data }, { on := 7, ground := Ground.data }], guard := none } : Oper)) (v := ?_) rfl (by kernel_rfl) (by kernel_rfl) (by kernel_rfl) (fun _ _ _ h => h) (Or.inl ⟨by rfl, ?_⟩) (by assumption) ?_
        rotate_left 1
        · intro w hSw
          (try dsimp only at hSw)
          go_simp
          try with_reducible rfl
        try simp only [Act.put, List.setIfInBounds_toArray, List.set_cons_zero, List.set_cons_succ]
        refine wpAnyH_take (i := 10) (oi := ({ dst := some 52, op := Op.move (Operand.tmp 11), type := 3, pos := "law.go:118", after := #[], guard := none } : Oper)) (v := ?_) rfl (by kernel_rfl) (by kernel_rfl) (by kernel_rfl) (fun _ _ _ h => h) (Or.inl ⟨by rfl, ?_⟩) (by assumption) ?_
        rotate_left 1
        · intro w hSw
          (try dsimp only at hSw)
          go_simp
          try with_reducible rfl
        try simp only [Act.put, List.setIfInBounds_toArray, List.set_cons_zero, List.set_cons_succ]
        refine wpAnyH_take (i := 11) (oi := ({ dst := some 53, op := Op.convert 3 25 (Operand.tmp 52), type := 25, pos := "law.go:118", after := #[{ on := 10, ground := Ground.data }], guard := none } : Oper)) (v := ?_) rfl (by kernel_rfl) (by kernel_rfl) (by kernel_rfl) (fun _ _ _ h => h) (Or.inl ⟨by rfl, ?_⟩) (by assumption) ?_
        rotate_left 1
        · intro w hSw
          (try dsimp only at hSw)
          go_simp
          try with_reducible rfl
        try simp only [Act.put, List.setIfInBounds_toArray, List.set_cons_zero, List.set_cons_succ]
        refine wpAnyH_take (i := 12) (oi := ({ dst := some 54, op := Op.build 46 #[(0, Operand.tmp 53), (1, Operand.const (Value.int IntKind.i64 32)), (2, Operand.const (Value.int IntKind.i64 3))], type := 46, pos := "law.go:118", after := #[{ on := 11, ground := Ground.data }], guard := none } : Oper)) (v := ?_) rfl (by kernel_rfl) (by kernel_rfl) (by kernel_rfl) (fun _ _ _ h => h) (Or.inl ⟨by rfl, ?_⟩) (by assumption) ?_
        rotate_left 1
        · intro w hSw
          (try dsimp only at hSw)
          go_simp
          try with_reducible rfl
        try simp only [Act.put, List.setIfInBounds_toArray, List.set_cons_zero, List.set_cons_succ]
        refine wpAnyH_ready (rs := [9, 13]) (by kernel_rfl) (by simp) ?_
        refine AllReadyH.cons rfl (fun K hK => ?_) (AllReadyH.cons rfl (fun K hK => ?_) AllReadyH.nil)
        · go_simp
          refine hK.out _ _ (by assumption) (fun hHeld => ?_)
          clear hK K
          try simp only [Act.put, List.setIfInBounds_toArray, List.set_cons_zero, List.set_cons_succ]
          refine wpAnyH_ready (rs := [13]) (by kernel_rfl) (by simp) ?_
          refine AllReadyH.cons rfl (fun K hK => ?_) AllReadyH.nil
          go_simp
          refine hK.out _ _ ((KD.out.bel D9).cell 0 rfl) (fun hHeld => ?_)
          clear hK K
          try simp only [Act.put, List.setIfInBounds_toArray, List.set_cons_zero, List.set_cons_succ]
          refine wpAnyH_ready (rs := [14]) (by kernel_rfl) (by simp) ?_
          refine AllReadyH.cons rfl (fun K hK => ?_) AllReadyH.nil
          refine step_append4 _ (by rfl) (.tmp 51) (.tmp 55) _ (by rfl) wm.heap.size 46 i0 (.agg #[.int .u32 0, .int .i64 0, .int .i64 0, .int .i64 0]) 32 Try.underlying42 hi0 hz0 hz1 hz2 rfl (.slice AX nX cX) nX (rcells Tb) (by rfl) (own_bel HOX.out D9) _ 1 _ (rcells [rul k]) (by rfl) rfl (Has.new wr (rcells [rul k]) 46 (0, 0)).drew (rcells_one _) (by unfold maxLen; omega) (by omega) (by have := HBD.out.size; have := D9.size; omega) ?_
          intro v9 w9 hown9 hgrow9 hat9
          obtain ⟨b9, c9, hv9, _, _⟩ := World.ownsRow.form hown9 (by omega)
          subst hv9
          have KD9 := Lib.hid ((KD.out.bel D9).grown hgrow9 (own_blk (own_bel HOX.out D9) (KD.out.bel D9) (by decide)))
          have OD9 := Lib.hid (World.ownsRow.kept (own_bel OD.out D9) hgrow9 (dj_symm (own_apart (own_bel OD.out D9) (own_bel HOX.out D9))))
          have OY9 : Hid (OwnR 46 wm.heap.size x0 (tabB 0 k) w9) := World.ownsRow.kept (O0.out.bel D9) hgrow9 HDY.out
          have HDY9 : Hid (x0.ownBlock = none ∨ x0.ownBlock ≠ (Value.slice (some ⟨b9, 0, none⟩) (nX + 1) c9).ownBlock) := dj_new HDY.out hat9 (fun q hq => Nat.lt_of_lt_of_le (O0.out.lt q hq).2 D9.size)
          have q9 : w9.cell? ⟨gd, 1, none⟩ = some (.slice AX nX cX) := (OD9.out.cellAt (j := 1) (by omega)).trans rfl
          have z9 : w9.frozen? ⟨gd, 1, none⟩ = false := OD9.out.frozenAt 1
          have HB9 : Hid (Below wm.heap.size wm w9) := (HBD.out.trans (D9.mono HBD.out.size)).grown hgrow9 (by have := HBD.out.size; have := D9.size; omega) (fun q hq => (HOX.out.lt q hq).1)
          try go_simp
          refine hK.out _ _ (KD9.out.cell 0 rfl) (fun hHeld => ?_)
          clear hK K
          try simp only [Act.put, List.setIfInBounds_toArray, List.set_cons_zero, List.set_cons_succ]
          refine wpAnyH_take (i := 15) (oi := ({ dst := some 57, op := Op.indexAddr 22 (Operand.tmp 43) (Operand.tmp 45), type := 0, pos := "law.go:118", after := #[{ on := 1, ground := Ground.data }, { on := 3, ground := Ground.data }, { on := 0, ground := Ground.phase }, { on := 1, ground := Ground.phase }, { on := 2, ground := Ground.phase }, { on := 3, ground := Ground.phase }, { on := 4, ground := Ground.phase }, { on := 5, ground := Ground.phase }, { on := 6, ground := Ground.phase }, { on := 7, ground := Ground.phase }, { on := 8, ground := Ground.phase }, { on := 9, ground := Ground.phase }, { on := 10, ground := Ground.phase }, { on := 11, ground := Ground.phase }, { on := 12, ground := Ground.phase }, { on := 13, ground := Ground.phase }, { on := 14, ground := Ground.phase }], guard := none } : Oper)) (v := ?_) rfl (by kernel_rfl) (by kernel_rfl) (by kernel_rfl) (fun _ _ _ h => h) (Or.inl ⟨by rfl, ?_⟩) (by assumption) ?_
          rotate_left 1
          · intro w hSw
            (try dsimp only at hSw)
            go_simp
            try with_reducible rfl
          try simp only [Act.put, List.setIfInBounds_toArray, List.set_cons_zero, List.set_cons_succ]
          refine wpAnyH_ready (rs := [16]) (by kernel_rfl) (by simp) ?_
          refine AllReadyH.cons rfl (fun K hK => ?_) AllReadyH.nil
          go_simp
          refine hK.out _ _ ((KD9.out.far gd 1 _ (by have := HNE.out; omega)).cell 0 rfl) (fun hHeld => ?_)
          clear hK K
          try simp only [Act.put, List.setIfInBounds_toArray, List.set_cons_zero, List.set_cons_succ]
          refine wpAnyH_done (by kernel_rfl) ?_ _
          have hst := OD9.out.stored 1 (Value.slice (some ⟨b9, 0, none⟩) (nX + 1) c9)
          have KD10 : Hid (Blk B10 #[.slice (some ⟨gd, 0, none⟩) 2 2] 24 (w9.setCell ⟨gd, 1, none⟩ (Value.slice (some ⟨b9, 0, none⟩) (nX + 1) c9))) := KD9.out.far gd 1 _ (by have := HNE.out; omega)
          have OD10 : Hid ((w9.setCell ⟨gd, 1, none⟩ (Value.slice (some ⟨b9, 0, none⟩) (nX + 1) c9)).ownsRow wm.heap.size 42 1 (.slice (some ⟨gd, 0, none⟩) 2 2) 2 [x0, (Value.slice (some ⟨b9, 0, none⟩) (nX + 1) c9)]) := hst.1
          have OX10 : Hid (OwnR 46 wm.heap.size (Value.slice (some ⟨b9, 0, none⟩) (nX + 1) c9) (tabB 1 (k + 1)) (w9.setCell ⟨gd, 1, none⟩ (Value.slice (some ⟨b9, 0, none⟩) (nX + 1) c9))) := by
            show OwnR _ _ _ _ _
            rw [HTY.out]
            have h := World.ownsRow.kept hown9 hst.2 (own_apart OD9.out hown9)
            rw [← rcells_append] at h
            exact OwnR.mk h (Nat.le_refl _)
          have OY10 : Hid (OwnR 46 wm.heap.size x0 (tabB 0 (k + 1)) (w9.setCell ⟨gd, 1, none⟩ (Value.slice (some ⟨b9, 0, none⟩) (nX + 1) c9))) := by
            show OwnR _ _ _ _ _
            rw [HTN.out]
            exact World.ownsRow.kept OY9.out hst.2 (own_apart OD9.out OY9.out)
          have HDJ10 : Hid (x0.ownBlock = none ∨ x0.ownBlock ≠ (Value.slice (some ⟨b9, 0, none⟩) (nX + 1) c9).ownBlock) := HDY9
          have HB10 : Hid (Below wm.heap.size wm (w9.setCell ⟨gd, 1, none⟩ (Value.slice (some ⟨b9, 0, none⟩) (nX + 1) c9))) := HB9.out.setCell (p := ⟨gd, 1, none⟩) (by have := HGD.out; show _ ≤ gd; omega) _
          clear hst hown9 hgrow9 hat9 KD9 OD9 OY9 HDY9 q9 z9 HB9 p2 p3 D9 HOX HDY KD OD O1 O0 HDJ HBD HTY HTN HNX hi0 hz0 hz1 hz2 hw2 hw3 hcv
          go_wp2_with fail
          go_roundw
          case rel => exact ⟨k + 1, x0, (Value.slice (some ⟨b9, 0, none⟩) (nX + 1) c9), by omega, by go_num, KD10, OD10, OY10, OX10, HDJ10, HB10⟩
          case measure => simp [intOf]; omega
        · go_simp
          refine hK.out _ _ ((KD.out.bel D9).cell 0 rfl) (fun hHeld => ?_)
          clear hK K
          try simp only [Act.put, List.setIfInBounds_toArray, List.set_cons_zero, List.set_cons_succ]
          refine wpAnyH_ready (rs := [9]) (by kernel_rfl) (by simp) ?_
          refine AllReadyH.cons rfl (fun K hK => ?_) AllReadyH.nil
          go_simp
          refine hK.out _ _ (by assumption) (fun hHeld => ?_)
          clear hK K
          try simp only [Act.put, List.setIfInBounds_toArray, List.set_cons_zero, List.set_cons_succ]
          refine wpAnyH_ready (rs := [14]) (by kernel_rfl) (by simp) ?_
          refine AllReadyH.cons rfl (fun K hK => ?_) AllReadyH.nil
          refine step_append4 _ (by rfl) (.tmp 51) (.tmp 55) _ (by rfl) wm.heap.size 46 i0 (.agg #[.int .u32 0, .int .i64 0, .int .i64 0, .int .i64 0]) 32 Try.underlying42 hi0 hz0 hz1 hz2 rfl (.slice AX nX cX) nX (rcells Tb) (by rfl) (own_bel HOX.out D9) _ 1 _ (rcells [rul k]) (by rfl) rfl (Has.new wr (rcells [rul k]) 46 (0, 0)).drew (rcells_one _) (by unfold maxLen; omega) (by omega) (by have := HBD.out.size; have := D9.size; omega) ?_
          intro v9 w9 hown9 hgrow9 hat9
          obtain ⟨b9, c9, hv9, _, _⟩ := World.ownsRow.form hown9 (by omega)
          subst hv9
          have KD9 := Lib.hid ((KD.out.bel D9).grown hgrow9 (own_blk (own_bel HOX.out D9) (KD.out.bel D9) (by decide)))
          have OD9 := Lib.hid (World.ownsRow.kept (own_bel OD.out D9) hgrow9 (dj_symm (own_apart (own_bel OD.out D9) (own_bel HOX.out D9))))
          have OY9 : Hid (OwnR 46 wm.heap.size x0 (tabB 0 k) w9) := World.ownsRow.kept (O0.out.bel D9) hgrow9 HDY.out
          have HDY9 : Hid (x0.ownBlock = none ∨ x0.ownBlock ≠ (Value.slice (some ⟨b9, 0, none⟩) (nX + 1) c9).ownBlock) := dj_new HDY.out hat9 (fun q hq => Nat.lt_of_lt_of_le (O0.out.lt q hq).2 D9.size)
          have q9 : w9.cell? ⟨gd, 1, none⟩ = some (.slice AX nX cX) := (OD9.out.cellAt (j := 1) (by omega)).trans rfl
          have z9 : w9.frozen? ⟨gd, 1, none⟩ = false := OD9.out.frozenAt 1
          have HB9 : Hid (Below wm.heap.size wm w9) := (HBD.out.trans (D9.mono HBD.out.size)).grown hgrow9 (by have := HBD.out.size; have := D9.size; omega) (fun q hq => (HOX.out.lt q hq).1)
          try go_simp
          refine hK.out _ _ (KD9.out.cell 0 rfl) (fun hHeld => ?_)
          clear hK K
          try simp only [Act.put, List.setIfInBounds_toArray, List.set_cons_zero, List.set_cons_succ]
          refine wpAnyH_take (i := 15) (oi := ({ dst := some 57, op := Op.indexAddr 22 (Operand.tmp 43) (Operand.tmp 45), type := 0, pos := "law.go:118", after := #[{ on := 1, ground := Ground.data }, { on := 3, ground := Ground.data }, { on := 0, ground := Ground.phase }, { on := 1, ground := Ground.phase }, { on := 2, ground := Ground.phase }, { on := 3, ground := Ground.phase }, { on := 4, ground := Ground.phase }, { on := 5, ground := Ground.phase }, { on := 6, ground := Ground.phase }, { on := 7, ground := Ground.phase }, { on := 8, ground := Ground.phase }, { on := 9, ground := Ground.phase }, { on := 10, ground := Ground.phase }, { on := 11, ground := Ground.phase }, { on := 12, ground := Ground.phase }, { on := 13, ground := Ground.phase }, { on := 14, ground := Ground.phase }], guard := none } : Oper)) (v := ?_) rfl (by kernel_rfl) (by kernel_rfl) (by kernel_rfl) (fun _ _ _ h => h) (Or.inl ⟨by rfl, ?_⟩) (by assumption) ?_
          rotate_left 1
          · intro w hSw
            (try dsimp only at hSw)
            go_simp
            try with_reducible rfl
          try simp only [Act.put, List.setIfInBounds_toArray, List.set_cons_zero, List.set_cons_succ]
          refine wpAnyH_ready (rs := [16]) (by kernel_rfl) (by simp) ?_
          refine AllReadyH.cons rfl (fun K hK => ?_) AllReadyH.nil
          go_simp
          refine hK.out _ _ ((KD9.out.far gd 1 _ (by have := HNE.out; omega)).cell 0 rfl) (fun hHeld => ?_)
          clear hK K
          try simp only [Act.put, List.setIfInBounds_toArray, List.set_cons_zero, List.set_cons_succ]
          refine wpAnyH_done (by kernel_rfl) ?_ _
          have hst := OD9.out.stored 1 (Value.slice (some ⟨b9, 0, none⟩) (nX + 1) c9)
          have KD10 : Hid (Blk B10 #[.slice (some ⟨gd, 0, none⟩) 2 2] 24 (w9.setCell ⟨gd, 1, none⟩ (Value.slice (some ⟨b9, 0, none⟩) (nX + 1) c9))) := KD9.out.far gd 1 _ (by have := HNE.out; omega)
          have OD10 : Hid ((w9.setCell ⟨gd, 1, none⟩ (Value.slice (some ⟨b9, 0, none⟩) (nX + 1) c9)).ownsRow wm.heap.size 42 1 (.slice (some ⟨gd, 0, none⟩) 2 2) 2 [x0, (Value.slice (some ⟨b9, 0, none⟩) (nX + 1) c9)]) := hst.1
          have OX10 : Hid (OwnR 46 wm.heap.size (Value.slice (some ⟨b9, 0, none⟩) (nX + 1) c9) (tabB 1 (k + 1)) (w9.setCell ⟨gd, 1, none⟩ (Value.slice (some ⟨b9, 0, none⟩) (nX + 1) c9))) := by
            show OwnR _ _ _ _ _
            rw [HTY.out]
            have h := World.ownsRow.kept hown9 hst.2 (own_apart OD9.out hown9)
            rw [← rcells_append] at h
            exact OwnR.mk h (Nat.le_refl _)
          have OY10 : Hid (OwnR 46 wm.heap.size x0 (tabB 0 (k + 1)) (w9.setCell ⟨gd, 1, none⟩ (Value.slice (some ⟨b9, 0, none⟩) (nX + 1) c9))) := by
            show OwnR _ _ _ _ _
            rw [HTN.out]
            exact World.ownsRow.kept OY9.out hst.2 (own_apart OD9.out OY9.out)
          have HDJ10 : Hid (x0.ownBlock = none ∨ x0.ownBlock ≠ (Value.slice (some ⟨b9, 0, none⟩) (nX + 1) c9).ownBlock) := HDY9
          have HB10 : Hid (Below wm.heap.size wm (w9.setCell ⟨gd, 1, none⟩ (Value.slice (some ⟨b9, 0, none⟩) (nX + 1) c9))) := HB9.out.setCell (p := ⟨gd, 1, none⟩) (by have := HGD.out; show _ ≤ gd; omega) _
          clear hst hown9 hgrow9 hat9 KD9 OD9 OY9 HDY9 q9 z9 HB9 p2 p3 D9 HOX HDY KD OD O1 O0 HDJ HBD HTY HTN HNX hi0 hz0 hz1 hz2 hw2 hw3 hcv
          go_wp2_with fail
          go_roundw
          case rel => exact ⟨k + 1, x0, (Value.slice (some ⟨b9, 0, none⟩) (nX + 1) c9), by omega, by go_num, KD10, OD10, OY10, OX10, HDJ10, HB10⟩
          case measure => simp [intOf]; omega
    · obtain rfl : k = R := by omega
      have VD : Hid (IsN wr (.agg #[.slice (some ⟨gd, 0, none⟩) 2 2]) (deepN k)) := by
        have h : RowsOwn wm.heap.size (deepN k) [x0, x1] wr := ⟨rfl, fun i h1 h2 => by
          match i, h1, h2 with
          | 0, _, _ => exact O0.out
          | 1, _, _ => exact O1.out⟩
        exact (h.isS OD.out).mk
      have hb := HBD.out
      replace HB2 := Lib.hid (HB2.out.trans (hb.mono HB2.out.size))
      replace K8 := Lib.hid (K8.out.bel hb)
      replace VW := Lib.hid (VW.out.bel hb)
      replace VL := Lib.hid (VL.out.bel hb)
      clear hb HBD O0 O1 OD HDJ hi0 hz0 hz1 hz2
      have hsd : szN (deepN k) = k := deep_sz k
      have hsw : szN (wideN N1) = 1 := wide_sz N1
      have hwd : WfN (deepN k) := deep_wf (by omega)
      have hlw : ∀ r ∈ [lastR N1], r.at_ ≤ 4294967295 := fun r hr => by rw [List.mem_singleton.1 hr]; show (0 : Nat) ≤ 4294967295; omega
      have hww : WfN (wideN N1) := fun l hl r hr => by
        unfold wideN at hl
        rcases List.mem_cons.1 hl with rfl | hl
        · exact hlw r hr
        · rw [List.eq_of_mem_replicate hl] at hr; cases hr
      have hA : (decide ((ND : Int) > 256) = true ∧ decide (256 < ND) = true ∧ mayN (wideN N1) = 12) ∨ (decide ((ND : Int) > 256) = false ∧ decide (256 < ND) = false ∧ mayN (wideN N1) = 0) := by
        have e := wide_may N1
        have hd := HND.out
        by_cases h : 256 < N1 + 1
        · rw [if_pos h] at e
          exact .inl ⟨decide_eq_true (by omega), decide_eq_true (by omega), e⟩
        · rw [if_neg h] at e
          exact .inr ⟨decide_eq_false (by omega), decide_eq_false (by omega), e⟩
      have hB : (decide ((k : Int) > 4096) = true ∧ decide (4096 < k) = true ∧ mayN (deepN k) = 12) ∨ (decide ((k : Int) > 4096) = false ∧ decide (4096 < k) = false ∧ mayN (deepN k) = 0) := by
        have e := deep_may k
        by_cases h : 4096 < k
        · rw [if_pos h] at e
          exact .inl ⟨decide_eq_true (by omega), decide_eq_true h, e⟩
        · rw [if_neg h] at e
          exact .inr ⟨decide_eq_false (by omega), decide_eq_false h, e⟩
      have CW := Lib.hid (fun v w hv => nmay_any v (wideN N1) w hv (by rw [hsw]; omega) hww)
      have CD := Lib.hid (fun v w hv => nmay_any v (deepN k) w hv (by rw [hsd]; omega) hwd)
      have CZW := Lib.hid (fun v w hv => nsize_any v (wideN N1) w hv (by rw [hsw]; omega))
      have CZD := Lib.hid (fun v w hv => nsize_any v (deepN k) w hv (by rw [hsd]; omega))
      rw [hsw] at CZW
      rw [hsd] at CZD
      have CO : Hid (∀ v w, IsN w v [[lastR N1]] → Calls Try.prog 14 #[v] w fun e w' => e = .returned (.int .i64 10) ∧ Below w.heap.size w w') := fun v w hv => by
        have h := nmay_any v [[lastR N1]] w hv (by simp [szN]) (fun l hl r hr => by rw [List.mem_singleton.1 hl] at hr; exact hlw r hr)
        rw [odd_may (by omega)] at h
        exact h
      have CE : Hid (∀ w : World, Calls Try.prog 14 #[.agg #[.slice none 0 0]] w fun e w' => e = .returned (.int .i64 0) ∧ Below w.heap.size w w') := fun w => nmay_any (.agg #[.slice none 0 0]) [] w ⟨_, rfl, none, 0, 0, [], rfl, Nat.le_refl _, Nat.zero_le _, rfl, rfl, Has.nil_ _ _, fun i h => absurd h (by simp)⟩ (by simp [szN]) (fun l hl => by cases hl)
      have VO : Hid (IsN (wr.alloc (.cells #[.slice (some ⟨gl, 0, none⟩) 1 1] 42)) (.agg #[.slice (some ⟨wr.heap.size, 0, none⟩) 1 1]) [[lastR N1]]) := by
        have hr := VL.out.bel ((Below.refl wr.heap.size wr).alloc (Nat.le_refl _) (.cells #[.slice (some ⟨gl, 0, none⟩) 1 1] 42))
        exact ⟨_, rfl, _, 1, 1, [.slice (some ⟨gl, 0, none⟩) 1 1], rfl, Nat.le_refl _, by unfold maxLen; omega, rfl, rfl, Has.new wr [.slice (some ⟨gl, 0, none⟩) 1 1] 42 (0, 0), fun i h1 h2 => by
          match i, h1, h2 with
          | 0, _, _ => exact hr⟩
      have tk : ((k : Int) == (k : Int)) = true := by simp
      clear hsd hsw hwd hlw hww VL hlt hk
      rcases hA with ⟨a1, a2, a3⟩ | ⟨a1, a2, a3⟩ <;> rcases hB with ⟨b1, b2, b3⟩ | ⟨b1, b2, b3⟩ <;>
      · rw [a3] at CW
        rw [b3] at CD
        clear a3 b3
        go_wp2_with fail
        refine (CO.out _ _ VO.out).mono ?_
        rintro e1 z1 ⟨rfl, hb0⟩
        have hb := unbox hb0
        replace HB2 := Lib.hid (HB2.out.trans (hb.mono HB2.out.size))
        replace K8 := Lib.hid (K8.out.bel hb)
        replace KD := Lib.hid (KD.out.bel hb)
        replace VW := Lib.hid (VW.out.bel hb)
        replace VD := Lib.hid (VD.out.bel hb)
        clear hb hb0 VO a1 a2 b1 b2
        have q0 := K8.out.cell 0 rfl
        go_wp2_with fail
        refine (CW.out _ z1 VW.out).mono ?_
        rintro e1 z2 ⟨rfl, hb⟩
        replace HB2 := Lib.hid (HB2.out.trans (hb.mono HB2.out.size))
        replace K8 := Lib.hid (K8.out.bel hb)
        replace KD := Lib.hid (KD.out.bel hb)
        replace VW := Lib.hid (VW.out.bel hb)
        replace VD := Lib.hid (VD.out.bel hb)
        clear hb q0
        have q0 := KD.out.cell 0 rfl
        go_wp2_with fail
        refine (CD.out _ z2 VD.out).mono ?_
        rintro e1 z3 ⟨rfl, hb⟩
        replace HB2 := Lib.hid (HB2.out.trans (hb.mono HB2.out.size))
        replace K8 := Lib.hid (K8.out.bel hb)
        replace KD := Lib.hid (KD.out.bel hb)
        replace VW := Lib.hid (VW.out.bel hb)
        replace VD := Lib.hid (VD.out.bel hb)
        clear hb q0
        have q0 := KD.out.cell 0 rfl
        go_wp2_with fail
        refine (CZD.out _ z3 VD.out).mono ?_
        rintro e1 z4 ⟨rfl, hb⟩
        replace HB2 := Lib.hid (HB2.out.trans (hb.mono HB2.out.size))
        replace K8 := Lib.hid (K8.out.bel hb)
        replace KD := Lib.hid (KD.out.bel hb)
        replace VW := Lib.hid (VW.out.bel hb)
        replace VD := Lib.hid (VD.out.bel hb)
        clear hb q0
        have q0 := K8.out.cell 0 rfl
        go_wp2_with fail
        refine (CZW.out _ z4 VW.out).mono ?_
        rintro e1 z5 ⟨rfl, hb⟩
        replace HB2 := Lib.hid (HB2.out.trans (hb.mono HB2.out.size))
        replace K8 := Lib.hid (K8.out.bel hb)
        replace KD := Lib.hid (KD.out.bel hb)
        replace VW := Lib.hid (VW.out.bel hb)
        replace VD := Lib.hid (VD.out.bel hb)
        clear hb q0
        go_wp2_with fail
        refine (CE.out z5).mono ?_
        rintro e1 z6 ⟨rfl, hb⟩
        replace HB2 := Lib.hid (HB2.out.trans (hb.mono HB2.out.size))
        replace K8 := Lib.hid (K8.out.bel hb)
        replace KD := Lib.hid (KD.out.bel hb)
        replace VW := Lib.hid (VW.out.bel hb)
        replace VD := Lib.hid (VD.out.bel hb)
        clear hb
        go_wp2_with fail
        go_ret
        exact ⟨rfl, HB2.out⟩
end Go.Proofs.Ytpfpkghihpcbkaa
