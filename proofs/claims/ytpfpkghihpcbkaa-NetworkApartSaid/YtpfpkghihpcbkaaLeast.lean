/- Plain mathematics of layer 9: the least node that comes back, by marks: each walk marks what it passes first. No program. -/
import Derived.Test.YtpfpkghihpcbkaaNetMath
namespace Go.Proofs.Ytpfpkghihpcbkaa
set_option linter.unusedVariables false
set_option linter.unusedSimpArgs false

/-- of each node the walk that passed it first -/
def mkd (L : List Nat) (x : Nat) : Nat := L.getD x 0
theorem mkd_set {L : List Nat} {x : Nat} (hx : x < L.length) (m y : Nat) : mkd (L.set x m) y = if y = x then m else mkd L y := by
  unfold mkd
  rw [List.getD_eq_getElem?_getD, List.getD_eq_getElem?_getD, List.getElem?_set]
  by_cases h : x = y
  · subst h
    simp [hx]
  · rw [if_neg h, if_neg (fun e => h e.symm)]
theorem mkd_high {L : List Nat} {x : Nat} (h : L.length ≤ x) : mkd L x = 0 := by
  unfold mkd
  rw [List.getD_eq_getElem?_getD, List.getElem?_eq_none h]
  rfl
theorem mkd_at {L : List Nat} {x : Nat} (h : x < L.length) : mkd L x = L[x] := by
  unfold mkd
  rw [List.getD_eq_getElem?_getD, List.getElem?_eq_getElem h]
  rfl
/-- what is known when the first s nodes have been begun with -/
structure Scan (N : Nt) (a s : Nat) (L : List Nat) (o : Option Int) : Prop where
  len : L.length = N.length
  low : ∀ x, mkd L x ≤ s
  got : ∀ x, x < s → mkd L x ≠ 0
  shut : ∀ x y : Nat, mkd L x ≠ 0 → stN N a x = some (y : Int) → y < N.length → mkd L y ≠ 0
  back : ∀ x : Nat, mkd L x ≠ 0 → Back N a x → ∃ m, o = some m ∧ m ≤ x
  is : ∀ m, o = some m → ∃ u : Nat, m = (u : Int) ∧ u < N.length ∧ Back N a u
theorem Scan.start (N : Nt) (a : Nat) : Scan N a 0 (List.replicate N.length 0) none := by
  have h : ∀ x, mkd (List.replicate N.length 0) x = 0 := fun x => by
    unfold mkd
    rw [List.getD_eq_getElem?_getD, List.getElem?_replicate]
    split <;> rfl
  exact ⟨by simp, fun x => by rw [h]; exact Nat.le_refl _, fun x hx => absurd hx (Nat.not_lt_zero _), fun x y hx => absurd (h x) hx, fun x hx => absurd (h x) hx, fun m hm => by cases hm⟩
/-- .. and when the walk from s has passed k nodes that none had passed -/
structure Inner (N : Nt) (a s : Nat) (L0 L : List Nat) (k : Nat) : Prop where
  len : L.length = N.length
  pass : ∀ j, j < k → ∃ x : Nat, itN N a j s = some (x : Int) ∧ x < N.length ∧ mkd L0 x = 0 ∧ mkd L x = s + 1
  rest : ∀ x : Nat, (∀ j, j < k → itN N a j s ≠ some (x : Int)) → mkd L x = mkd L0 x
  dist : ∀ i j, i < j → j < k → itN N a i s ≠ itN N a j s
theorem Inner.start {N : Nt} {a s : Nat} {L : List Nat} (h : L.length = N.length) : Inner N a s L L 0 :=
  ⟨h, fun j hj => absurd hj (Nat.not_lt_zero _), fun _ _ => rfl, fun i j _ hj => absurd hj (Nat.not_lt_zero _)⟩
section
variable {N : Nt} {a s k : Nat} {L0 L : List Nat}
theorem Inner.fresh (h : Inner N a s L0 L k) {x : Nat} (hx : mkd L x = 0) : ∀ j, j < k → itN N a j s ≠ some (x : Int) := fun j hj e => by
  obtain ⟨y, h1, _, _, h4⟩ := h.pass j hj
  rw [e] at h1
  injection h1 with h1
  have : x = y := by omega
  subst this
  omega
theorem Inner.step (h : Inner N a s L0 L k) {x : Nat} (hx : itN N a k s = some (x : Int)) (hn : x < N.length) (hz : mkd L x = 0) : Inner N a s L0 (L.set x (s + 1)) (k + 1) := by
  have hf := h.fresh hz
  have hxl : x < L.length := by rw [h.len]; exact hn
  have h0 : mkd L0 x = 0 := (h.rest x hf).symm.trans hz
  refine ⟨by rw [List.length_set, h.len], fun j hj => ?_, fun y hy => ?_, fun i j hij hj => ?_⟩
  · rcases Nat.lt_or_ge j k with g | g
    · obtain ⟨y, h1, h2, h3, h4⟩ := h.pass j g
      refine ⟨y, h1, h2, h3, ?_⟩
      rw [mkd_set hxl]
      split
      · rfl
      · exact h4
    · obtain rfl : j = k := by omega
      exact ⟨x, hx, hn, h0, by rw [mkd_set hxl, if_pos rfl]⟩
  · have hne : y ≠ x := fun e => hy k (Nat.lt_succ_self _) (by rw [hx, e])
    rw [mkd_set hxl, if_neg hne]
    exact h.rest y (fun j hj => hy j (Nat.lt_succ_of_lt hj))
  · rcases Nat.lt_or_ge j k with g | g
    · exact h.dist i j hij g
    · obtain rfl : j = k := by omega
      rw [hx]
      exact hf i hij
theorem Inner.few (h : Inner N a s L0 L k) : k ≤ N.length := by
  rcases Nat.lt_or_ge N.length k with g | g
  · obtain ⟨i, j, hij, hj, e⟩ := pigeon N.length (fun i => (itN N a i s).getD 0) (fun i hi => by
      obtain ⟨x, h1, h2, _⟩ := h.pass i (by omega)
      rw [h1]
      simp only [Option.getD_some]
      omega)
    obtain ⟨x, h1, _⟩ := h.pass i (by omega)
    obtain ⟨y, h2, _⟩ := h.pass j (by omega)
    simp only [h1, h2, Option.getD_some] at e
    exact absurd (by rw [h1, h2, e]) (h.dist i j hij (by omega))
  · exact g
theorem Inner.keeps (h : Inner N a s L0 L k) {x : Nat} (hx : mkd L0 x ≠ 0) : mkd L x = mkd L0 x := h.rest x fun j hj e => by
  obtain ⟨y, h1, _, h3, _⟩ := h.pass j hj
  rw [e] at h1
  injection h1 with h1
  have : x = y := by omega
  subst this
  exact hx h3
theorem Inner.either (h : Inner N a s L0 L k) (x : Nat) : (∃ j, j < k ∧ itN N a j s = some (x : Int)) ∨ mkd L x = mkd L0 x := by
  by_cases g : ∃ j, j < k ∧ itN N a j s = some (x : Int)
  · exact .inl g
  · exact .inr (h.rest x fun j hj e => g ⟨j, hj, e⟩)
/-- who comes back, and was passed, is come to from the walk's end -/
theorem from_end {x : Int} {j : Nat} (hj : j < k) (hx : itN N a j s = some x) (hb : Back N a x) : ∃ y d, itN N a k s = some y ∧ itN N a d y = some x := by
  obtain ⟨c, c1, _, c3⟩ := hb
  have hp := period c3 (k - j)
  have hle : k - j ≤ c * (k - j) := Nat.le_mul_of_pos_left _ c1
  obtain ⟨y, hy⟩ := itN_less hp hle
  refine ⟨y, c * (k - j) - (k - j), ?_, ?_⟩
  · rw [show k = j + (k - j) by omega, itN_add, hx]
    exact hy
  · rw [show c * (k - j) = (k - j) + (c * (k - j) - (k - j)) by omega, itN_add, hy] at hp
    exact hp
theorem Scan.reach {o : Option Int} (h : Scan N a s L0 o) : ∀ (d : Nat) {y x : Nat}, mkd L0 y ≠ 0 → itN N a d y = some (x : Int) → x < N.length → mkd L0 x ≠ 0
  | 0, y, x, hy, hx, _ => by
    injection hx with hx
    have : y = x := by omega
    subst this
    exact hy
  | d + 1, y, x, hy, hx, hn => by
    change (stN N a y).bind (itN N a d) = some (x : Int) at hx
    cases e : stN N a y with
    | none => rw [e] at hx; cases hx
    | some z =>
      rw [e] at hx
      change itN N a d z = some (x : Int) at hx
      have hz : ∃ t : Nat, z = (t : Int) ∧ t < N.length := by
        cases d with
        | zero =>
          injection hx with hx
          exact ⟨x, hx, hn⟩
        | succ d =>
          change (stN N a z).bind (itN N a d) = some (x : Int) at hx
          cases e2 : stN N a z with
          | none => rw [e2] at hx; cases hx
          | some q =>
            obtain ⟨g1, g2⟩ := stN_in e2
            obtain ⟨t, rfl⟩ := Int.eq_ofNat_of_zero_le g1
            exact ⟨t, rfl, by omega⟩
      obtain ⟨t, rfl, ht⟩ := hz
      exact h.reach d (h.shut y t hy e ht) hx hn
/-- the walk has ended: what is known of one node more -/
theorem Scan.next {o o' : Option Int} (h : Scan N a s L0 o) (g : Inner N a s L0 L k) (hs : mkd L s ≠ 0) (hk : ∀ x : Nat, itN N a k s = some (x : Int) → x < N.length → mkd L x ≠ 0)
    (hb : ∀ j, j < k → ∀ x : Nat, itN N a j s = some (x : Int) → Back N a x → ∃ m, o' = some m ∧ m ≤ x) (ho : ∀ m, o = some m → ∃ m', o' = some m' ∧ m' ≤ m)
    (hi : ∀ m, o' = some m → ∃ u : Nat, m = (u : Int) ∧ u < N.length ∧ Back N a u) : Scan N a (s + 1) L o' := by
  have hm : ∀ x, mkd L0 x ≠ 0 → mkd L x ≠ 0 := fun x hx => by rw [g.keeps hx]; exact hx
  refine ⟨g.len, fun x => ?_, fun x hx => ?_, fun x y hx hy hn => ?_, fun x hx hB => ?_, hi⟩
  · rcases g.either x with ⟨j, hj, e⟩ | e
    · obtain ⟨y, h1, _, _, h4⟩ := g.pass j hj
      rw [e] at h1
      injection h1 with h1
      have : x = y := by omega
      subst this
      omega
    · rw [e]
      have := h.low x
      omega
  · rcases (by omega : x < s ∨ x = s) with g1 | g1
    · exact hm x (h.got x g1)
    · rw [g1]; exact hs
  · rcases g.either x with ⟨j, hj, e⟩ | e
    · have hy2 : itN N a (j + 1) s = some (y : Int) := by rw [itN_snoc, e]; exact hy
      rcases (by omega : j + 1 < k ∨ j + 1 = k) with g1 | g1
      · obtain ⟨z, h1, _, _, h4⟩ := g.pass (j + 1) g1
        rw [hy2] at h1
        injection h1 with h1
        have : y = z := by omega
        subst this
        omega
      · subst g1
        exact hk y hy2 hn
    · exact hm y (h.shut x y (by rw [← e]; exact hx) hy hn)
  · rcases g.either x with ⟨j, hj, e⟩ | e
    · exact hb j hj x e hB
    · obtain ⟨m, h1, h2⟩ := h.back x (by rw [← e]; exact hx) hB
      obtain ⟨m', h3, h4⟩ := ho m h1
      exact ⟨m', h3, by omega⟩
/-- the walk ends without a loop of its own -/
theorem Scan.plain {o : Option Int} (h : Scan N a s L0 o) (g : Inner N a s L0 L k) (hs : mkd L s ≠ 0)
    (hk : itN N a k s = none ∨ (∃ y : Int, itN N a k s = some y ∧ ¬ (0 ≤ y ∧ y < N.length)) ∨ ∃ y : Nat, itN N a k s = some (y : Int) ∧ mkd L0 y ≠ 0) : Scan N a (s + 1) L o := by
  refine h.next g hs (fun x hx hn => ?_) (fun j hj x hx hB => ?_) (fun m hm => ⟨m, hm, Int.le_refl _⟩) h.is
  · rcases hk with e | ⟨y, e, hy⟩ | ⟨y, e, hy⟩
    · rw [e] at hx; cases hx
    · rw [e] at hx
      injection hx with hx
      omega
    · rw [e] at hx
      injection hx with hx
      have : y = x := by omega
      subst this
      rw [g.keeps hy]
      exact hy
  · exfalso
    obtain ⟨y, d, h1, h2⟩ := from_end hj hx hB
    obtain ⟨x', p1, p2, p3, _⟩ := g.pass j hj
    rw [hx] at p1
    injection p1 with p1
    have : x = x' := by omega
    subst this
    rcases hk with e | ⟨y', e, hy⟩ | ⟨y', e, hy⟩
    · rw [e] at h1; cases h1
    · rw [e] at h1
      injection h1 with h1
      subst h1
      cases d with
      | zero =>
        injection h2 with h2
        omega
      | succ d =>
        change (stN N a y').bind (itN N a d) = some (x : Int) at h2
        cases e2 : stN N a y' with
        | none => rw [e2] at h2; cases h2
        | some q => exact hy (stN_in e2)
    · rw [e] at h1
      injection h1 with h1
      subst h1
      exact h.reach d hy h2 p2 p3
/-- the walk comes to a node of its own: that node's loop -/
theorem Inner.loop (h : ∀ x, mkd L0 x ≤ s) (g : Inner N a s L0 L k) {y : Nat} (hy : itN N a k s = some (y : Int)) (hm : mkd L y = s + 1) : ∃ K, K ≤ N.length ∧ First N a y K := by
  rcases g.either y with ⟨i, hi, e⟩ | e
  · refine ⟨k - i, by have := g.few; omega, by omega, ?_, fun t h1 h2 h3 => ?_⟩
    · rw [show k = i + (k - i) by omega, itN_add, e] at hy
      exact hy
    · have h4 : itN N a (i + t) s = some (y : Int) := by rw [itN_add, e]; exact h3
      exact g.dist i (i + t) (by omega) (by omega) (by rw [e, h4])
  · have := h y
    omega
end
/-! the least of a row -/
def minL : List Int → Int
  | [] => 0
  | x :: r => r.foldl min x
theorem foldl_min (r : List Int) : ∀ x : Int, (r.foldl min x = x ∨ r.foldl min x ∈ r) ∧ r.foldl min x ≤ x ∧ ∀ y ∈ r, r.foldl min x ≤ y := by
  induction r with
  | nil => intro x; exact ⟨.inl rfl, Int.le_refl _, fun y hy => by cases hy⟩
  | cons z r ih =>
    intro x
    obtain ⟨h1, h2, h3⟩ := ih (min x z)
    rw [List.foldl_cons]
    refine ⟨?_, by omega, fun y hy => ?_⟩
    · rcases h1 with e | e
      · rcases (by omega : min x z = x ∨ min x z = z) with g | g
        · exact .inl (e.trans g)
        · exact .inr (by rw [e, g]; exact List.mem_cons_self)
      · exact .inr (List.mem_cons_of_mem _ e)
    · rcases List.mem_cons.1 hy with rfl | hy
      · omega
      · exact h3 y hy
theorem minL_in {l : List Int} (h : l ≠ []) : minL l ∈ l ∧ ∀ y ∈ l, minL l ≤ y := by
  cases l with
  | nil => exact absurd rfl h
  | cons x r =>
    obtain ⟨h1, h2, h3⟩ := foldl_min r x
    refine ⟨?_, fun y hy => ?_⟩
    · rcases h1 with e | e
      · show r.foldl min x ∈ x :: r
        rw [e]
        exact List.mem_cons_self
      · exact List.mem_cons_of_mem _ e
    · rcases List.mem_cons.1 hy with rfl | hy
      · exact h2
      · exact h3 y hy
/-! the loop's nodes -/
theorem path_mem {N : Nt} {a : Nat} {v : Int} {K : Nat} (h : First N a v K) {x : Int} : x ∈ path N a v K ↔ ∃ t, t < K ∧ itN N a t v = some x := by
  unfold path
  rw [List.mem_map]
  constructor
  · rintro ⟨t, ht, e⟩
    rw [List.mem_range] at ht
    obtain ⟨y, hy⟩ := itN_less h.2.1 (Nat.le_of_lt ht)
    rw [hy] at e
    exact ⟨t, ht, by rw [hy, ← e]; rfl⟩
  · rintro ⟨t, ht, e⟩
    exact ⟨t, List.mem_range.2 ht, by rw [e]; rfl⟩
/-- who is come to from a loop's node is of the loop -/
theorem loop_shut {N : Nt} {a : Nat} {v : Int} {K : Nat} (h : First N a v K) {d : Nat} {x : Int} (hx : itN N a d v = some x) : x ∈ path N a v K := by
  refine (path_mem h).2 ⟨d % K, Nat.mod_lt _ h.1, ?_⟩
  have hp := period h.2.1 (d / K)
  have hd := Nat.div_add_mod d K
  rw [← hd, itN_add, hp] at hx
  exact hx
theorem loop_back {N : Nt} {a : Nat} {v : Int} {K : Nat} (h : First N a v K) (hK : K ≤ N.length) {x : Int} (hx : x ∈ path N a v K) : Back N a x := by
  obtain ⟨t, ht, e⟩ := (path_mem h).1 hx
  refine ⟨K, h.1, hK, ?_⟩
  have h1 : itN N a (K + t) v = some x := by rw [itN_add, h.2.1]; exact e
  rw [Nat.add_comm, itN_add, e] at h1
  exact h1
theorem back_in {N : Nt} {a : Nat} {x : Int} (h : Back N a x) : ∃ u : Nat, x = (u : Int) ∧ u < N.length := by
  obtain ⟨k, h1, _, h3⟩ := h
  obtain ⟨k, rfl⟩ : ∃ j, k = j + 1 := ⟨k - 1, by omega⟩
  change (stN N a x).bind (itN N a k) = some x at h3
  cases e : stN N a x with
  | none => rw [e] at h3; cases h3
  | some q =>
    obtain ⟨g1, g2⟩ := stN_in e
    obtain ⟨t, rfl⟩ := Int.eq_ofNat_of_zero_le g1
    exact ⟨t, rfl, by omega⟩
/-- the lesser one, if there was one -/
def lessO (o : Option Int) (m : Int) : Option Int := match o with
  | none => some m
  | some x => if m < x then some m else some x
theorem Scan.looped {N : Nt} {a s k : Nat} {L0 L : List Nat} {o : Option Int} (h : Scan N a s L0 o) (g : Inner N a s L0 L k) (hs : mkd L s ≠ 0) {y : Nat} (hy : itN N a k s = some (y : Int)) (hm : mkd L y = s + 1) {K : Nat} (hF : First N a y K) (hK : K ≤ N.length) :
    Scan N a (s + 1) L (lessO o (minL (path N a y K))) := by
  have hne : path N a y K ≠ [] := fun e => by
    have h1 := path_len N a y K
    rw [e] at h1
    have h2 := hF.1
    simp at h1
    omega
  obtain ⟨m1, m2⟩ := minL_in hne
  obtain ⟨u, hu, hun⟩ := back_in (loop_back hF hK m1)
  have hl : ∃ m, lessO o (minL (path N a y K)) = some m ∧ m ≤ minL (path N a y K) := by
    cases o with
    | none => exact ⟨_, rfl, Int.le_refl _⟩
    | some x =>
      by_cases g : minL (path N a y K) < x
      · exact ⟨minL (path N a y K), by simp [lessO, g], Int.le_refl _⟩
      · exact ⟨x, by simp [lessO, g], by omega⟩
  refine h.next g hs (fun x hx hn => ?_) (fun j hj x hx hB => ?_) (fun m hm => ?_) (fun m hm => ?_)
  · rw [hy] at hx
    injection hx with hx
    have : y = x := by omega
    subst this
    omega
  · obtain ⟨z, d, h1, h2⟩ := from_end hj hx hB
    rw [hy] at h1
    injection h1 with h1
    subst h1
    have h3 := m2 x (loop_shut hF h2)
    obtain ⟨m, e1, e2⟩ := hl
    exact ⟨m, e1, by omega⟩
  · subst hm
    by_cases g : minL (path N a y K) < m
    · exact ⟨minL (path N a y K), by simp [lessO, g], by omega⟩
    · exact ⟨m, by simp [lessO, g], Int.le_refl _⟩
  · cases o with
    | none =>
      injection hm with hm
      subst hm
      exact ⟨u, hu, hun, hu ▸ loop_back hF hK m1⟩
    | some x =>
      by_cases g : minL (path N a y K) < x
      · simp only [lessO, g, ↓reduceIte] at hm
        injection hm with hm
        subst hm
        exact ⟨u, hu, hun, hu ▸ loop_back hF hK m1⟩
      · simp only [lessO, g, ↓reduceIte] at hm
        exact h.is m hm
/-- all nodes have been begun with: what is found is what Loop begins with -/
theorem Scan.all {N : Nt} {a : Nat} {L : List Nat} {o : Option Int} (h : Scan N a N.length L o) : (o = none ∧ lpN N a = none) ∨ ∃ (u K : Nat), o = some (u : Int) ∧ u < N.length ∧ K ≤ N.length ∧ First N a u K ∧ lpN N a = some (path N a u K) := by
  cases o with
  | none => exact .inl ⟨rfl, lpN_no fun t ht hB => by obtain ⟨m, h1, _⟩ := h.back t (h.got t ht) hB; cases h1⟩
  | some m =>
    obtain ⟨u, rfl, hu, hB⟩ := h.is m rfl
    obtain ⟨K, k1, k2⟩ := back_first hB
    refine .inr ⟨u, K, rfl, hu, k1, k2, lpN_yes hu k2 k1 fun t ht hBt => ?_⟩
    obtain ⟨m, h1, h2⟩ := h.back t (h.got t (by omega)) hBt
    injection h1 with h1
    omega
end Go.Proofs.Ytpfpkghihpcbkaa
