/- The walk of theseuslaw09.NetworkPlain. -/
import Derived.Test.YtpfpkghihpcbkaaL09
import Derived.Test.YtpfpkghihpcbkaaRef09
import Derived.Test.YtpfpkghihpcbkaaNetOwn
import Derived.Deep.DeepCutAuto
import Derived.Deep.RegionHeld3
import Derived.OwnWalk
import Derived.Laws.OwnMore
namespace Go.Proofs.Ytpfpkghihpcbkaa
open Go.RowKit
set_option linter.unusedVariables false
set_option linter.unusedSimpArgs false

def delR : Rl := ⟨0, 0, 2, 0⟩
def selfR (v : Nat) : Rl := ⟨0, 0, 1, (v : Int)⟩
def endN (M : Nat) : Nat → Nt
  | 0 => List.replicate M []
  | i + 1 => (endN M i).set i [delR]
theorem endN_len (M : Nat) : ∀ i, (endN M i).length = M
  | 0 => by simp [endN]
  | i + 1 => by simp [endN, endN_len M i]
theorem endN_at (M : Nat) : ∀ (i j : Nat) (h : j < (endN M i).length), (endN M i)[j] = if j < i then [delR] else []
  | 0, j, h => by simp [endN]
  | i + 1, j, h => by
    simp only [endN, List.getElem_set]
    by_cases g : i = j
    · subst g
      simp
    · rw [if_neg g, endN_at M i j]
      by_cases g2 : j < i
      · rw [if_pos g2, if_pos (by omega)]
      · rw [if_neg g2, if_neg (by omega)]
theorem endN_all {M : Nat} : ∀ l ∈ endN M M, l = [delR] := fun l hl => by
  obtain ⟨j, hj, rfl⟩ := List.getElem_of_mem hl
  rw [endN_at, if_pos (by rw [endN_len] at hj; exact hj)]
theorem st_none {N : Nt} {a : Nat} (h : ∀ l ∈ N, ∀ r ∈ l, r.act ≠ 1) (v : Int) : stN N a v = none := by
  rcases Int.lt_or_le v 0 with g | g
  · exact stN_low N a g
  · obtain ⟨k, rfl⟩ := Int.eq_ofNat_of_zero_le g
    rcases Nat.lt_or_ge k N.length with g2 | g2
    · rw [stN_at N a k g2]
      cases e : findF N[k] a with
      | none => rfl
      | some r =>
        have := h N[k] (List.getElem_mem g2) r (find_some e).1
        unfold nextT asO
        simp [this]
    · exact stN_high N a (by omega)
theorem it_none {N : Nt} {a k : Nat} {v : Int} (h : stN N a v = none) (hk : 1 ≤ k) : itN N a k v = none := by
  rw [show k = (k - 1) + 1 by omega]
  show (stN N a v).bind _ = none
  rw [h]
  rfl
theorem lp_none {N : Nt} {a : Nat} (h : ∀ v, stN N a v = none) : lpN N a = none :=
  lpN_no fun t _ hb => by
    obtain ⟨k, k1, _, k3⟩ := hb
    rw [it_none (h t) k1] at k3
    cases k3
theorem hold_zero (n a : Nat) (c : Int) (ha : a < 4294967296) : holdR (Rl.mk 0 0 c (n : Int)) a = true := by
  unfold holdR holdB
  rw [decide_eq_true_iff]
  show loN 0 (cl 0) = loN a (cl 0)
  rw [show cl 0 = 0 from rfl, lo_zero 0 (by omega), lo_zero a ha]
theorem find_single {r : Rl} {a : Nat} (h : holdR r a = true) : findF [r] a = some r := by
  show stepF a none r = _
  exact step_first h
theorem next_single {r : Rl} (h : r.act = 1) : asO (nextT (some r)) = some r.nxt := by
  unfold nextT asO
  simp [h]
def selfN (M v : Nat) : Nt := (endN M M).set v [selfR v]
theorem selfN_len (M v : Nat) : (selfN M v).length = M := by simp [selfN, endN_len]
theorem self_self {M v a : Nat} (hv : v < M) (ha : a < 4294967296) : stN (selfN M v) a (v : Int) = some (v : Int) := by
  rw [stN_at _ a v (by rw [selfN_len]; exact hv)]
  have e : (selfN M v)[v]'(by rw [selfN_len]; exact hv) = [selfR v] := by simp [selfN]
  rw [e]
  have hh : holdR (selfR v) a = true := hold_zero v a 1 ha
  have f : findF [selfR v] a = some (selfR v) := find_single hh
  rw [f, next_single (r := selfR v) rfl]
  rfl
theorem self_other {M v t a : Nat} (ht : t ≠ v) : stN (selfN M v) a (t : Int) = none := by
  rcases Nat.lt_or_ge t M with g | g
  · rw [stN_at _ a t (by rw [selfN_len]; exact g)]
    have e : (selfN M v)[t]'(by rw [selfN_len]; exact g) = [delR] := by
      simp only [selfN]
      rw [List.getElem_set_ne (by omega), endN_at, if_pos g]
    rw [e]
    cases f : findF [delR] a with
    | none => rfl
    | some r =>
      have := (find_some f).1
      rw [List.mem_singleton] at this
      subst this
      rfl
  · exact stN_high _ a (by rw [selfN_len]; omega)
theorem self_loop {M v a : Nat} (hv : v < M) (ha : a < 4294967296) : lpN (selfN M v) a = some [(v : Int)] := by
  have h1 : itN (selfN M v) a 1 (v : Int) = some (v : Int) := (itN_one _ _ _).trans (self_self hv ha)
  rw [lpN_yes (u := v) (K := 1) (by rw [selfN_len]; exact hv) ⟨Nat.le_refl _, h1, fun i g1 g2 => by omega⟩ (by rw [selfN_len]; omega) (fun t ht hb => by
    obtain ⟨k, k1, _, k3⟩ := hb
    rw [it_none (self_other (by omega)) k1] at k3
    cases k3)]
  rfl
theorem self_walk {M v a : Nat} (hv : v < M) (ha : a < 4294967296) : wkN (selfN M v) a (v : Int) 200 = some (v : Int) := by
  rw [wkN_ok (by omega) (by omega) (by omega) (by rw [selfN_len]; omega)]
  have h1 : itN (selfN M v) a 1 (v : Int) = some (v : Int) := (itN_one _ _ _).trans (self_self hv ha)
  have h2 := period h1 200
  rw [Nat.one_mul] at h2
  have e : (200 : Int).toNat = 200 := by decide
  rw [e]
  exact h2
theorem may_one {r : Rl} {m : Int} (h : mayRl r m = 0) : mayT [r] m = 0 := mayT_ok.2 ⟨fun x hx => by rw [List.mem_singleton.1 hx]; exact h, List.pairwise_singleton _ _⟩
theorem may_zero_at (n : Int) : mayI 0 0 = 0 := mayI_ok.2 ⟨by omega, by omega, by decide⟩
theorem self_may {M v : Nat} (hv : v < M) (hM : M ≤ 32) : mayN (selfN M v) = 0 := by
  have hs : szN (selfN M v) ≤ 4096 := by
    have h := szN_bound (N := selfN M v) (B := 1) (fun l hl => by
      obtain ⟨j, hj, rfl⟩ := List.getElem_of_mem hl
      simp only [selfN, List.getElem_set]
      split
      · simp
      · rw [endN_at]
        split <;> simp)
    rw [selfN_len] at h
    omega
  unfold mayN
  rw [if_neg (by rw [selfN_len]; omega), firstE_ok]
  intro l hl
  obtain ⟨j, hj, rfl⟩ := List.getElem_of_mem hl
  rw [selfN_len]
  simp only [selfN, List.getElem_set]
  split
  · exact may_one (mayRl_ok.2 ⟨may_zero_at 0, .inl ⟨rfl, by show (0 : Int) ≤ (v : Int); omega, by show (v : Int) < (M : Int); omega⟩⟩)
  · rw [endN_at, if_pos (by rw [selfN_len] at hj; exact hj)]
    exact may_one (mayRl_ok.2 ⟨may_zero_at 0, .inr ⟨.inl rfl, rfl⟩⟩)
theorem nil_may {M : Nat} (hM : M ≤ 32) : mayN (List.replicate M ([] : List Rl)) = 0 := by
  have hs : szN (List.replicate M ([] : List Rl)) ≤ 4096 := by
    have h := szN_bound (N := List.replicate M ([] : List Rl)) (B := 0) (fun l hl => by rw [List.eq_of_mem_replicate hl]; simp)
    omega
  unfold mayN
  rw [if_neg (by rw [List.length_replicate]; omega), firstE_ok]
  intro l hl
  rw [List.eq_of_mem_replicate hl]
  rfl
theorem RowsOwn.set {base : Nat} {N : Nt} {vs : List Value} {w : World} (h : RowsOwn base N vs w) (i : Nat) {v : Value} {l : List Rl} (hv : OwnR 46 base v l w) : RowsOwn base (N.set i l) (vs.set i v) w := by
  obtain ⟨h1, h2⟩ := h
  refine ⟨by simp [h1], fun j g1 g2 => ?_⟩
  simp only [List.getElem_set]
  split
  · exact hv
  · exact h2 j (by simpa using g1) (by simpa using g2)
theorem RowsOwn.nils (base M : Nat) (w : World) : RowsOwn base (List.replicate M []) (List.replicate M (.slice none 0 0)) w :=
  ⟨by simp, fun i h1 h2 => by simp only [List.getElem_replicate]; exact ⟨rfl, .inl ⟨rfl, rfl⟩⟩⟩
theorem made_nils (M : Nat) : (madeCells (Value.slice none 0 0).cells (M * 1)).toList = List.replicate M (Value.slice none 0 0) := by
  rw [Nat.mul_one]
  exact toList_madeCells_one (.slice none 0 0) M
theorem wf_of {N : Nt} (h : ∀ l ∈ N, ∀ r ∈ l, r.at_ = 0) : WfN N := fun l hl r hr => by rw [h l hl r hr]; omega
set_option maxRecDepth 100000 in
set_option maxHeartbeats 8000000 in
theorem walkNetworkPlain (l0 : List Int) (a1 : Int) (w : World) (w0 : l0.length = 2 ∧ ∀ x ∈ l0, (Lit.int .u8 x).wf = true) (w1 : (Lit.int .u32 a1).wf = true) :
    Calls Try.prog 7 #[.agg (l0.map (Value.int .u8)).toArray, .int .u32 a1] w fun e w' => e = .returned (.bool true) ∧ Below w.heap.size w w' := by
  obtain ⟨hl1, hh1⟩ := bounds_u32 w1
  obtain ⟨a, rfl⟩ := Int.eq_ofNat_of_zero_le hl1
  have ha : (a : Int) ≤ 4294967295 := by omega
  clear w1 hl1 hh1
  obtain ⟨x0, x1, rfl⟩ : ∃ x0 x1, l0 = [x0, x1] := by
    match l0, w0.1 with
    | [x0, x1], _ => exact ⟨x0, x1, rfl⟩
  obtain ⟨hl0, hh0⟩ := bounds_u8 (w0.2 x0 (by simp))
  obtain ⟨p, rfl⟩ := Int.eq_ofNat_of_zero_le hl0
  have hp : (p : Int) ≤ 255 := by omega
  clear hl0 hh0
  obtain ⟨hl1, hh1⟩ := bounds_u8 (w0.2 x1 (by simp))
  obtain ⟨q, rfl⟩ := Int.eq_ofNat_of_zero_le hl1
  have hq : (q : Int) ≤ 255 := by omega
  clear hl1 hh1
  clear w0
  have haa : a < 4294967296 := by omega
  obtain ⟨P, hP⟩ : ∃ P, p % 32 = P := ⟨_, rfl⟩
  have hP32 : (P : Int) ≤ 31 := by omega
  have hPM : (p : Int) % 32 = (P : Int) := by omega
  obtain ⟨M, hM⟩ : ∃ M, 1 + P = M := ⟨_, rfl⟩
  have hM1 : 1 ≤ (M : Int) := by omega
  have hM32 : (M : Int) ≤ 32 := by omega
  have hMM : IntKind.i64.wrap (1 + (P : Int)) = (M : Int) := by rw [IntKind.wrap_i64]; omega
  obtain ⟨v, hv⟩ : ∃ v, q % M = v := ⟨_, rfl⟩
  have hvM : v < M := by rw [← hv]; exact Nat.mod_lt _ (by omega)
  have hvV : (q : Int) % (M : Int) = (v : Int) := by omega
  have hvi : (v : Int) < (M : Int) := by omega
  have hvz : (0 : Int) ≤ (v : Int) := by omega
  have hz : ((M : Int) == 0) = false := by rw [beq_eq_false_iff_ne]; omega
  have HII := Lib.hid row_info
  have HRI := Lib.hid rule_info
  have HVM := Lib.hid hvM
  clear hP hM hv hvM
  have HB0 := Lib.hid (Below.refl w.heap.size w)
  go_enter Try.func7, Try.ntmps7
  go_wp2_with fail
  obtain ⟨w1, hW⟩ : ∃ W, w.alloc (.cells #[.int .u8 (p : Int), .int .u8 (q : Int)] 48) = W := ⟨_, rfl⟩
  obtain ⟨h, hG⟩ : ∃ G, w.heap.size = G := ⟨_, rfl⟩
  rw [hW, hG]
  have hb : Below w.heap.size w w1 := by subst hW; exact (Below.refl _ _).alloc (Nat.le_refl _) _
  have HB1 := Lib.hid (HB0.out.trans (hb.mono HB0.out.size))
  have Lh : Hid (w.heap.size ≤ h) := by subst hG; exact HB0.out.size
  have Kh : Hid (Blk h #[.int .u8 (p : Int), .int .u8 (q : Int)] 48 w1) := by subst hW hG; exact Blk.new _ _ _
  clear hb hW hG HB0
  refine (shown9 w1).mono ?_
  rintro e1 w2 ⟨rfl, hb⟩
  have HB2 := Lib.hid (HB1.out.trans (hb.mono HB1.out.size))
  replace Kh := Lib.hid (Kh.out.bel hb)
  clear hb HB1
  have qh0 := Kh.out.cell 0 rfl
  have qh1 := Kh.out.cell 1 rfl
  go_upto_region 4 with fail
  try rw [hvV]
  clear qh0 qh1
  clear Kh
  clear hPM hMM hvV hz
  obtain ⟨j0, hj0, jz0, jz1, jz2⟩ := info_parts HII.out
  go_upto_region 5 with (first
    | (at_make; refine wpList_make_full _ rfl (.tmp 34) (.tmp 34) _ rfl w2.heap.size 42 j0 (.slice none 0 0) 1 Try.underlying22 hj0 jz0 jz1 .i64 .i64 (M : Int) (M : Int) M rfl rfl rfl rfl (by rw [jz2]; omega) (by unfold maxLen; omega) (Nat.le_refl _) ?_; intro w5 hown5 hgrow5))
  obtain ⟨g1, hg1⟩ : ∃ g, w2.heap.size = g := ⟨_, rfl⟩
  rw [made_nils] at hown5
  have hB5 : Below w2.heap.size w2 w5 := (Below.refl w2.heap.size w2).grown hgrow5 (Nat.le_refl _) (fun q hq => by cases hq)
  have L1 : w.heap.size ≤ w2.heap.size := HB2.out.size
  have HB0 : Hid (Below w.heap.size w (w5.alloc (.cells #[.slice (some ⟨g1, 0, none⟩) M M] 24))) := by
    subst hg1
    exact (HB2.out.trans (hB5.mono L1)).alloc (by have := hB5.size; omega) _
  have ON : Hid ((w5.alloc (.cells #[.slice (some ⟨g1, 0, none⟩) M M] 24)).ownsRow w.heap.size 42 1 (.slice (some ⟨g1, 0, none⟩) M M) M (List.replicate M (.slice none 0 0))) := by
    subst hg1
    exact own_base (own_bel hown5 ((Below.refl _ _).alloc (Nat.le_refl _) _)) L1
  have K8 : Hid (Blk w5.heap.size #[.slice (some ⟨g1, 0, none⟩) M M] 24 (w5.alloc (.cells #[.slice (some ⟨g1, 0, none⟩) M M] 24))) := Blk.new w5 _ _
  have hg15 : g1 < w5.heap.size := by
    subst hg1
    exact (hown5.lt _ rfl).2
  rw [hg1]
  obtain ⟨B8, hB8⟩ : ∃ B, w5.heap.size = B := ⟨_, rfl⟩
  rw [hB8] at K8 hg15 ⊢
  have LB8 : Hid (w.heap.size ≤ B8) := by show _ ≤ _; have := hB5.size; omega
  clear hB8 hown5 hgrow5 hB5 hg1 L1 HB2
  generalize w5.alloc (.cells #[.slice (some ⟨g1, 0, none⟩) M M] 24) = w6 at *
  go_upto_region 7 with (first
    | (at_make; refine wpList_make_full _ rfl (.tmp 37) (.tmp 37) _ rfl w6.heap.size 42 j0 (.slice none 0 0) 1 Try.underlying22 hj0 jz0 jz1 .i64 .i64 (M : Int) (M : Int) M rfl rfl rfl rfl (by rw [jz2]; omega) (by unfold maxLen; omega) (Nat.le_refl _) ?_; intro w7 hown7 hgrow7))
  obtain ⟨g2, hg2⟩ : ∃ g, w6.heap.size = g := ⟨_, rfl⟩
  rw [made_nils] at hown7
  have hB7 : Below w6.heap.size w6 w7 := (Below.refl w6.heap.size w6).grown hgrow7 (Nat.le_refl _) (fun q hq => by cases hq)
  have L1 : w.heap.size ≤ w6.heap.size := HB0.out.size
  have hb : Below w6.heap.size w6 (w7.alloc (.cells #[.slice (some ⟨g2, 0, none⟩) M M] 24)) := hB7.alloc hB7.size _
  have hB8g : B8 < g2 := by rw [← hg2]; exact K8.out.size
  replace HB0 := Lib.hid (HB0.out.trans (hb.mono HB0.out.size))
  replace K8 := Lib.hid (K8.out.bel hb)
  replace ON := Lib.hid (own_bel ON.out hb)
  have OE : Hid ((w7.alloc (.cells #[.slice (some ⟨g2, 0, none⟩) M M] 24)).ownsRow w.heap.size 42 1 (.slice (some ⟨g2, 0, none⟩) M M) M (List.replicate M (.slice none 0 0))) := by
    subst hg2
    exact own_base (own_bel hown7 ((Below.refl _ _).alloc (Nat.le_refl _) _)) L1
  have K9 : Hid (Blk w7.heap.size #[.slice (some ⟨g2, 0, none⟩) M M] 24 (w7.alloc (.cells #[.slice (some ⟨g2, 0, none⟩) M M] 24))) := Blk.new w7 _ _
  have hg27 : g2 < w7.heap.size := by
    subst hg2
    exact (hown7.lt _ rfl).2
  rw [hg2]
  obtain ⟨B9, hB9⟩ : ∃ B, w7.heap.size = B := ⟨_, rfl⟩
  rw [hB9] at K9 hg27 ⊢
  have HNE : Hid (g1 ≠ g2 ∧ B8 ≠ g2 ∧ B9 ≠ g2 ∧ w.heap.size ≤ g2) := ⟨by omega, by omega, by omega, by omega⟩
  have RE : Hid (RowsOwn w.heap.size (endN M 0) (List.replicate M (.slice none 0 0)) (w7.alloc (.cells #[.slice (some ⟨g2, 0, none⟩) M M] 24))) := RowsOwn.nils _ _ _
  clear hb hB9 hown7 hgrow7 hB7 hg2 L1 hB8g hg15 hg27 hj0 jz0 jz1 jz2
  generalize w7.alloc (.cells #[.slice (some ⟨g2, 0, none⟩) M M] 24) = w8 at *
  go_wp2_with fail
  go_loopw [10] (fun i wr => ∃ k : Nat, ∃ vs : List Value, k ≤ M ∧ i = .int .i64 k ∧ Hid (Blk B8 #[.slice (some ⟨g1, 0, none⟩) M M] 24 wr) ∧ Hid (wr.ownsRow w.heap.size 42 1 (.slice (some ⟨g1, 0, none⟩) M M) M (List.replicate M (.slice none 0 0))) ∧ Hid (Blk B9 #[.slice (some ⟨g2, 0, none⟩) M M] 24 wr) ∧ Hid (wr.ownsRow w.heap.size 42 1 (.slice (some ⟨g2, 0, none⟩) M M) M vs) ∧ Hid (RowsOwn w.heap.size (endN M k) vs wr) ∧ Hid (Below w.heap.size w wr)) (fun i _ => M - (intOf i).toNat)
  case atStart => exact ⟨0, _, by omega, rfl, K8, ON, K9, OE, RE, HB0⟩
  case round =>
    clear K8 ON K9 OE RE HB0
    obtain ⟨k, vs, hk, rfl, K8, ON, K9, OE, RE, HB0⟩ := hrel
    generalize wr = wo at *
    by_cases hlt : k < M
    · have hki : (k : Int) < (M : Int) := by omega
      have hkz : (0 : Int) ≤ (k : Int) := by omega
      have hbA : Below wo.heap.size wo (wo.alloc (.cells #[.int .u32 0, .int .i64 0, .int .i64 2, .int .i64 0] 46)) := (Below.refl _ _).alloc (Nat.le_refl _) _
      have hvl : k < vs.length := by rw [RE.out.1, endN_len]; omega
      have OA := Lib.hid (own_bel OE.out hbA)
      have hcell : (wo.alloc (.cells #[.int .u32 0, .int .i64 0, .int .i64 2, .int .i64 0] 46)).cell? ⟨g2, k, none⟩ = some vs[k] := (OA.out.cellAt (j := k) (by omega)).trans (List.getElem?_eq_getElem hvl)
      have hfro : (wo.alloc (.cells #[.int .u32 0, .int .i64 0, .int .i64 2, .int .i64 0] 46)).frozen? ⟨g2, k, none⟩ = false := OA.out.frozenAt k
      have hst := OA.out.stored k (.slice (some ⟨wo.heap.size, 0, none⟩) 1 1)
      have HOT : Hid (OwnR 46 w.heap.size (.slice (some ⟨wo.heap.size, 0, none⟩) 1 1) [delR] (wo.alloc (.cells #[.int .u32 0, .int .i64 0, .int .i64 2, .int .i64 0] 46))) := World.ownsRow_lit (e := 46) (size := 4) wo #[.int .u32 0, .int .i64 0, .int .i64 2, .int .i64 0] 1 HB0.out.size (by decide) rfl
      have hgr : (wo.alloc (.cells #[.int .u32 0, .int .i64 0, .int .i64 2, .int .i64 0] 46)).grownBy ((wo.alloc (.cells #[.int .u32 0, .int .i64 0, .int .i64 2, .int .i64 0] 46)).setCell ⟨g2, k, none⟩ (.slice (some ⟨wo.heap.size, 0, none⟩) 1 1)) (some g2) := hst.2
      have K8b : Hid (Blk B8 #[.slice (some ⟨g1, 0, none⟩) M M] 24 ((wo.alloc (.cells #[.int .u32 0, .int .i64 0, .int .i64 2, .int .i64 0] 46)).setCell ⟨g2, k, none⟩ (.slice (some ⟨wo.heap.size, 0, none⟩) 1 1))) := (K8.out.bel hbA).far g2 k _ HNE.out.2.1
      have K9b : Hid (Blk B9 #[.slice (some ⟨g2, 0, none⟩) M M] 24 ((wo.alloc (.cells #[.int .u32 0, .int .i64 0, .int .i64 2, .int .i64 0] 46)).setCell ⟨g2, k, none⟩ (.slice (some ⟨wo.heap.size, 0, none⟩) 1 1))) := (K9.out.bel hbA).far g2 k _ HNE.out.2.2.1
      have ONb := Lib.hid (World.ownsRow.kept (own_bel ON.out hbA) hgr (.inr (fun e => HNE.out.1 (by simpa [Value.ownBlock] using e))))
      have OEb := Lib.hid hst.1
      have REb : Hid (RowsOwn w.heap.size (endN M (k + 1)) (vs.set k (.slice (some ⟨wo.heap.size, 0, none⟩) 1 1)) ((wo.alloc (.cells #[.int .u32 0, .int .i64 0, .int .i64 2, .int .i64 0] 46)).setCell ⟨g2, k, none⟩ (.slice (some ⟨wo.heap.size, 0, none⟩) 1 1))) := ((RE.out.bel hbA).set k HOT.out).grown OA.out hgr
      have HBb : Hid (Below w.heap.size w ((wo.alloc (.cells #[.int .u32 0, .int .i64 0, .int .i64 2, .int .i64 0] 46)).setCell ⟨g2, k, none⟩ (.slice (some ⟨wo.heap.size, 0, none⟩) 1 1))) := (HB0.out.alloc HB0.out.size _).setCell (p := ⟨g2, k, none⟩) HNE.out.2.2.2 _
      have q9 : (wo.alloc (.cells #[.int .u32 0, .int .i64 0, .int .i64 2, .int .i64 0] 46)).cell? ⟨B9, 0, none⟩ = some (.slice (some ⟨g2, 0, none⟩) M M) := (K9.out.bel hbA).cell 0 rfl
      have q8 := K9.out.cell 0 rfl
      clear hbA OA hst HOT hgr K8 K9 ON OE RE HB0
      go_wp2_with fail
      go_roundw
      case rel => exact ⟨k + 1, _, by omega, by go_num, K8b, ONb, K9b, OEb, REb, HBb⟩
      case measure => simp [intOf]; omega
    · obtain rfl : k = M := by omega
      have V8 : Hid (IsN wo (.agg #[.slice (some ⟨g1, 0, none⟩) k k]) (List.replicate k ([] : List Rl))) := ((RowsOwn.nils w.heap.size k wo).isS ON.out).mk
      have V9 : Hid (IsN wo (.agg #[.slice (some ⟨g2, 0, none⟩) k k]) (endN k k)) := (RE.out.isS OE.out).mk
      have hNw : WfN (List.replicate k ([] : List Rl)) := wf_of (fun l hl r hr => by rw [List.eq_of_mem_replicate hl] at hr; cases hr)
      have hEw : WfN (endN k k) := wf_of (fun l hl r hr => by rw [endN_all l hl, List.mem_singleton] at hr; rw [hr]; rfl)
      have eN : ∀ u, stN (List.replicate k ([] : List Rl)) a u = none := fun u => st_none (fun l hl r hr => by rw [List.eq_of_mem_replicate hl] at hr; cases hr) u
      have eE : ∀ u, stN (endN k k) a u = none := fun u => st_none (fun l hl r hr => by rw [endN_all l hl, List.mem_singleton] at hr; rw [hr]; decide) u
      have C1 : Hid (∀ x w, IsN w x (List.replicate k ([] : List Rl)) → Calls Try.prog 19 #[x, .int .u32 (a : Int), .int .i64 (v : Int)] w fun e w' => e = .returned (.tuple #[.int .i64 0, .bool false]) ∧ Below w.heap.size w w') := fun x w hx => by
        have h := nstep_any x (List.replicate k ([] : List Rl)) a (v : Int) w hx ha hNw
        rw [eN] at h
        exact h
      have C2 : Hid (∀ x w, IsN w x (endN k k) → Calls Try.prog 19 #[x, .int .u32 (a : Int), .int .i64 (v : Int)] w fun e w' => e = .returned (.tuple #[.int .i64 0, .bool false]) ∧ Below w.heap.size w w') := fun x w hx => by
        have h := nstep_any x (endN k k) a (v : Int) w hx ha hEw
        rw [eE] at h
        exact h
      have C3 : Hid (∀ x w, IsN w x (List.replicate k ([] : List Rl)) → Calls Try.prog 12 #[x, .int .u32 (a : Int)] w fun e w' => ∃ u, e = .returned (.tuple #[u, .bool false]) ∧ IsI w' u [] ∧ Below w.heap.size w w') := fun x w hx => by
        have h := nloop_any x (List.replicate k ([] : List Rl)) a w hx ha hNw (by rw [List.length_replicate]; omega)
        rw [lp_none eN] at h
        exact h
      have C4 : Hid (∀ x w, IsN w x (endN k k) → Calls Try.prog 12 #[x, .int .u32 (a : Int)] w fun e w' => ∃ u, e = .returned (.tuple #[u, .bool false]) ∧ IsI w' u [] ∧ Below w.heap.size w w') := fun x w hx => by
        have h := nloop_any x (endN k k) a w hx ha hEw (by rw [endN_len]; omega)
        rw [lp_none eE] at h
        exact h
      have C5 : Hid (∀ x w, IsN w x (List.replicate k ([] : List Rl)) → Calls Try.prog 14 #[x] w fun e w' => e = .returned (.int .i64 0) ∧ Below w.heap.size w w') := fun x w hx => by
        have h := nmay_any x (List.replicate k ([] : List Rl)) w hx (by have h := szN_bound (N := (List.replicate k ([] : List Rl))) (B := 0) (fun l hl => by rw [List.eq_of_mem_replicate hl]; simp); omega) hNw
        rw [nil_may (by omega)] at h
        exact h
      clear hNw hEw eN eE hlt hk
      have q0 := K8.out.cell 0 rfl
      go_wp2_with fail
      refine (C1.out _ wo V8.out).mono ?_
      rintro e1 y1 ⟨rfl, hb⟩
      replace HB0 := Lib.hid (HB0.out.trans (hb.mono HB0.out.size))
      replace K8 := Lib.hid (K8.out.bel hb)
      replace K9 := Lib.hid (K9.out.bel hb)
      replace V8 := Lib.hid (V8.out.bel hb)
      replace V9 := Lib.hid (V9.out.bel hb)
      replace ON := Lib.hid (own_bel ON.out hb)
      replace OE := Lib.hid (own_bel OE.out hb)
      replace RE := Lib.hid (RE.out.bel hb)
      clear hb q0
      have q0 := K9.out.cell 0 rfl
      go_wp2_with fail
      refine (C2.out _ y1 V9.out).mono ?_
      rintro e1 y2 ⟨rfl, hb⟩
      replace HB0 := Lib.hid (HB0.out.trans (hb.mono HB0.out.size))
      replace K8 := Lib.hid (K8.out.bel hb)
      replace K9 := Lib.hid (K9.out.bel hb)
      replace V8 := Lib.hid (V8.out.bel hb)
      replace V9 := Lib.hid (V9.out.bel hb)
      replace ON := Lib.hid (own_bel ON.out hb)
      replace OE := Lib.hid (own_bel OE.out hb)
      replace RE := Lib.hid (RE.out.bel hb)
      clear hb q0
      have q0 := K8.out.cell 0 rfl
      go_wp2_with fail
      refine (C3.out _ y2 V8.out).mono ?_
      rintro e1 y3 ⟨lu, rfl, _, hb⟩
      replace HB0 := Lib.hid (HB0.out.trans (hb.mono HB0.out.size))
      replace K8 := Lib.hid (K8.out.bel hb)
      replace K9 := Lib.hid (K9.out.bel hb)
      replace V8 := Lib.hid (V8.out.bel hb)
      replace V9 := Lib.hid (V9.out.bel hb)
      replace ON := Lib.hid (own_bel ON.out hb)
      replace OE := Lib.hid (own_bel OE.out hb)
      replace RE := Lib.hid (RE.out.bel hb)
      clear hb q0
      have q0 := K9.out.cell 0 rfl
      go_wp2_with fail
      refine (C4.out _ y3 V9.out).mono ?_
      rintro e1 y4 ⟨lw, rfl, _, hb⟩
      replace HB0 := Lib.hid (HB0.out.trans (hb.mono HB0.out.size))
      replace K8 := Lib.hid (K8.out.bel hb)
      replace K9 := Lib.hid (K9.out.bel hb)
      replace V8 := Lib.hid (V8.out.bel hb)
      replace V9 := Lib.hid (V9.out.bel hb)
      replace ON := Lib.hid (own_bel ON.out hb)
      replace OE := Lib.hid (own_bel OE.out hb)
      replace RE := Lib.hid (RE.out.bel hb)
      clear hb q0 C1 C2 C3 C4 V8 V9
      generalize y4 = wo2 at *
      have hbA : Below wo2.heap.size wo2 (wo2.alloc (.cells #[.int .u32 0, .int .i64 0, .int .i64 1, .int .i64 (v : Int)] 46)) := (Below.refl _ _).alloc (Nat.le_refl _) _
      have hvl : v < vs.length := by rw [RE.out.1, endN_len]; have := HVM.out; omega
      have OA := Lib.hid (own_bel OE.out hbA)
      have hcell : (wo2.alloc (.cells #[.int .u32 0, .int .i64 0, .int .i64 1, .int .i64 (v : Int)] 46)).cell? ⟨g2, v, none⟩ = some vs[v] := (OA.out.cellAt (j := v) (by omega)).trans (List.getElem?_eq_getElem hvl)
      have hfro : (wo2.alloc (.cells #[.int .u32 0, .int .i64 0, .int .i64 1, .int .i64 (v : Int)] 46)).frozen? ⟨g2, v, none⟩ = false := OA.out.frozenAt v
      have hst := OA.out.stored v (.slice (some ⟨wo2.heap.size, 0, none⟩) 1 1)
      have HOT : Hid (OwnR 46 w.heap.size (.slice (some ⟨wo2.heap.size, 0, none⟩) 1 1) [selfR v] (wo2.alloc (.cells #[.int .u32 0, .int .i64 0, .int .i64 1, .int .i64 (v : Int)] 46))) := World.ownsRow_lit (e := 46) (size := 4) wo2 #[.int .u32 0, .int .i64 0, .int .i64 1, .int .i64 (v : Int)] 1 HB0.out.size (by decide) rfl
      have hgr : (wo2.alloc (.cells #[.int .u32 0, .int .i64 0, .int .i64 1, .int .i64 (v : Int)] 46)).grownBy ((wo2.alloc (.cells #[.int .u32 0, .int .i64 0, .int .i64 1, .int .i64 (v : Int)] 46)).setCell ⟨g2, v, none⟩ (.slice (some ⟨wo2.heap.size, 0, none⟩) 1 1)) (some g2) := hst.2
      have K8b : Hid (Blk B8 #[.slice (some ⟨g1, 0, none⟩) k k] 24 ((wo2.alloc (.cells #[.int .u32 0, .int .i64 0, .int .i64 1, .int .i64 (v : Int)] 46)).setCell ⟨g2, v, none⟩ (.slice (some ⟨wo2.heap.size, 0, none⟩) 1 1))) := (K8.out.bel hbA).far g2 v _ HNE.out.2.1
      have K9b : Hid (Blk B9 #[.slice (some ⟨g2, 0, none⟩) k k] 24 ((wo2.alloc (.cells #[.int .u32 0, .int .i64 0, .int .i64 1, .int .i64 (v : Int)] 46)).setCell ⟨g2, v, none⟩ (.slice (some ⟨wo2.heap.size, 0, none⟩) 1 1))) := (K9.out.bel hbA).far g2 v _ HNE.out.2.2.1
      have ONb := Lib.hid (World.ownsRow.kept (own_bel ON.out hbA) hgr (.inr (fun e => HNE.out.1 (by simpa [Value.ownBlock] using e))))
      have OEb := Lib.hid hst.1
      have REb : Hid (RowsOwn w.heap.size ((endN k k).set v [selfR v]) (vs.set v (.slice (some ⟨wo2.heap.size, 0, none⟩) 1 1)) ((wo2.alloc (.cells #[.int .u32 0, .int .i64 0, .int .i64 1, .int .i64 (v : Int)] 46)).setCell ⟨g2, v, none⟩ (.slice (some ⟨wo2.heap.size, 0, none⟩) 1 1))) := ((RE.out.bel hbA).set v HOT.out).grown OA.out hgr
      have HBb : Hid (Below w.heap.size w ((wo2.alloc (.cells #[.int .u32 0, .int .i64 0, .int .i64 1, .int .i64 (v : Int)] 46)).setCell ⟨g2, v, none⟩ (.slice (some ⟨wo2.heap.size, 0, none⟩) 1 1))) := (HB0.out.alloc HB0.out.size _).setCell (p := ⟨g2, v, none⟩) HNE.out.2.2.2 _
      have q9 : (wo2.alloc (.cells #[.int .u32 0, .int .i64 0, .int .i64 1, .int .i64 (v : Int)] 46)).cell? ⟨B9, 0, none⟩ = some (.slice (some ⟨g2, 0, none⟩) k k) := (K9.out.bel hbA).cell 0 rfl
      have q8 := K9.out.cell 0 rfl
      clear hbA OA hst HOT hgr K8 K9 ON OE RE HB0
      go_upto_region 15 with fail
      clear hcell hfro q8 q9
      generalize (wo2.alloc (.cells #[.int .u32 0, .int .i64 0, .int .i64 1, .int .i64 (v : Int)] 46)).setCell ⟨g2, v, none⟩ (.slice (some ⟨wo2.heap.size, 0, none⟩) 1 1) = z0 at *
      have V8 : Hid (IsN z0 (.agg #[.slice (some ⟨g1, 0, none⟩) k k]) (List.replicate k ([] : List Rl))) := ((RowsOwn.nils w.heap.size k z0).isS ONb.out).mk
      have V9 : Hid (IsN z0 (.agg #[.slice (some ⟨g2, 0, none⟩) k k]) (selfN k v)) := (REb.out.isS OEb.out).mk
      have HB0 := HBb
      have K8 := K8b
      have K9 := K9b
      clear HBb K8b K9b ONb OEb REb
      have hsw : WfN (selfN k v) := wf_of (fun l hl r hr => by
        obtain ⟨j, hj, rfl⟩ := List.getElem_of_mem hl
        simp only [selfN, List.getElem_set] at hr
        split at hr
        · rw [List.mem_singleton] at hr; rw [hr]; rfl
        · rw [endN_at, if_pos (by rw [selfN_len] at hj; exact hj), List.mem_singleton] at hr; rw [hr]; rfl)
      have hss : szN (selfN k v) ≤ 1000000 := by
        have h := szN_bound (N := selfN k v) (B := 1) (fun l hl => by
          obtain ⟨j, hj, rfl⟩ := List.getElem_of_mem hl
          simp only [selfN, List.getElem_set]
          split
          · simp
          · rw [endN_at]
            split <;> simp)
        rw [selfN_len] at h
        omega
      have D1 : Hid (∀ x w, IsN w x (selfN k v) → Calls Try.prog 12 #[x, .int .u32 (a : Int)] w fun e w' => ∃ u, e = .returned (.tuple #[u, .bool true]) ∧ IsI w' u [(v : Int)] ∧ Below w.heap.size w w') := fun x w hx => by
        have h := nloop_any x (selfN k v) a w hx ha hsw (by rw [selfN_len]; omega)
        rw [self_loop HVM.out haa] at h
        exact h
      have D2 : Hid (∀ x w, IsN w x (selfN k v) → Calls Try.prog 21 #[x, .int .u32 (a : Int), .int .i64 (v : Int), .int .i64 200] w fun e w' => e = .returned (.tuple #[.int .i64 (v : Int), .bool true]) ∧ Below w.heap.size w w') := fun x w hx => by
        have h := nwalk_any x (selfN k v) a (v : Int) 200 w hx ha hsw
        rw [self_walk HVM.out haa] at h
        exact h
      have D3 : Hid (∀ x w, IsN w x (selfN k v) → Calls Try.prog 14 #[x] w fun e w' => e = .returned (.int .i64 0) ∧ Below w.heap.size w w') := fun x w hx => by
        have h := nmay_any x (selfN k v) w hx hss hsw
        rw [self_may HVM.out (by omega)] at h
        exact h
      clear hsw hss
      have q0 := K9.out.cell 0 rfl
      go_wp2_with fail
      refine (D1.out _ z0 V9.out).mono ?_
      rintro e1 z1 ⟨lv, rfl, hl, hb⟩
      have VL := Lib.hid hl
      replace HB0 := Lib.hid (HB0.out.trans (hb.mono HB0.out.size))
      replace K8 := Lib.hid (K8.out.bel hb)
      replace K9 := Lib.hid (K9.out.bel hb)
      replace V8 := Lib.hid (V8.out.bel hb)
      replace V9 := Lib.hid (V9.out.bel hb)
      clear hb q0 hl
      have q0 := K9.out.cell 0 rfl
      go_wp2_with fail
      refine (D2.out _ z1 V9.out).mono ?_
      rintro e1 z2 ⟨rfl, hb⟩
      replace VL := Lib.hid (VL.out.bel hb)
      replace HB0 := Lib.hid (HB0.out.trans (hb.mono HB0.out.size))
      replace K8 := Lib.hid (K8.out.bel hb)
      replace K9 := Lib.hid (K9.out.bel hb)
      replace V8 := Lib.hid (V8.out.bel hb)
      replace V9 := Lib.hid (V9.out.bel hb)
      clear hb q0
      go_wp2_with fail
      refine (rrow_any lv (.slice (some ⟨z2.heap.size, 0, none⟩) 1 1) [(v : Int)] [(v : Int)] _ (VL.out.bel ((Below.refl _ _).alloc (Nat.le_refl _) _)) ⟨_, _, _, rfl, Nat.le_refl _, by unfold maxLen; omega, rfl, Has.new z2 (ints [(v : Int)]) _ (0, 0)⟩).mono ?_
      rintro e2 z3 ⟨rfl, hb0⟩
      have hb := unbox hb0
      replace HB0 := Lib.hid (HB0.out.trans (hb.mono HB0.out.size))
      replace K8 := Lib.hid (K8.out.bel hb)
      replace K9 := Lib.hid (K9.out.bel hb)
      replace V8 := Lib.hid (V8.out.bel hb)
      replace V9 := Lib.hid (V9.out.bel hb)
      clear hb hb0
      rw [decide_eq_true (rfl : [(v : Int)] = [(v : Int)])]
      have q0 := K9.out.cell 0 rfl
      have tv : ((v : Int) == (v : Int)) = true := by simp
      go_wp2_with fail
      refine (D3.out _ z3 V9.out).mono ?_
      rintro e1 z4 ⟨rfl, hb⟩
      replace HB0 := Lib.hid (HB0.out.trans (hb.mono HB0.out.size))
      replace K8 := Lib.hid (K8.out.bel hb)
      replace V8 := Lib.hid (V8.out.bel hb)
      clear hb q0
      have q0 := K8.out.cell 0 rfl
      go_wp2_with fail
      refine (C5.out _ z4 V8.out).mono ?_
      rintro e1 z5 ⟨rfl, hb⟩
      replace HB0 := Lib.hid (HB0.out.trans (hb.mono HB0.out.size))
      clear hb q0
      go_wp2_with fail
      go_ret
      exact ⟨rfl, HB0.out⟩
end Go.Proofs.Ytpfpkghihpcbkaa
