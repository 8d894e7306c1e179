/- Plain mathematics of layer 9: networks as lists of tables; steps, walks, loops. No program. -/
import Derived.Test.YtpfpkghihpcbkaaTblMath
namespace Go.Proofs.Ytpfpkghihpcbkaa
set_option linter.unusedVariables false
set_option linter.unusedSimpArgs false

abbrev Nt := List (List Rl)
def szN : Nt → Nat
  | [] => 0
  | l :: r => l.length + szN r
def firstE (m : Int) : Nt → Int
  | [] => 0
  | l :: r => if mayT l m ≠ 0 then mayT l m else firstE m r
def mayN (N : Nt) : Int := if 256 < N.length ∨ 4096 < szN N then 12 else firstE N.length N
def asO (p : Int × Bool) : Option Int := if p.2 then some p.1 else none
def resO (o : Option Int) : Int × Bool := (o.getD 0, o.isSome)
def stN (N : Nt) (a : Nat) (v : Int) : Option Int := if 0 ≤ v then match N[v.toNat]? with
  | none => none
  | some l => asO (nextT (findF l a)) else none
def itN (N : Nt) (a : Nat) : Nat → Int → Option Int
  | 0, v => some v
  | k + 1, v => (stN N a v).bind (itN N a k)
def wkN (N : Nt) (a : Nat) (v k : Int) : Option Int := if k < 0 ∨ 256 < k ∨ v < 0 ∨ (N.length : Int) ≤ v then none else itN N a k.toNat v
def chase (N : Nt) (a : Nat) (v : Int) : Nat → Option Int → List Int → Option (List Int)
  | _, none, _ => none
  | 0, some w, acc => if w = v then some acc else none
  | f + 1, some w, acc => if w = v then some acc else chase N a v f (stN N a w) (acc ++ [w])
def lpAt (N : Nt) (a : Nat) (v : Int) : Option (List Int) := chase N a v (N.length - 1) (stN N a v) [v]
def lpFrom (N : Nt) (a : Nat) : Nat → Nat → Option (List Int)
  | 0, _ => none
  | f + 1, v => match lpAt N a v with
    | some l => some l
    | none => lpFrom N a f (v + 1)
/-- the loop of the least node -/
def lpN (N : Nt) (a : Nat) : Option (List Int) := lpFrom N a N.length 0

/-! answers as pairs -/
theorem nextT_pair (o : Option Rl) : resO (asO (nextT o)) = nextT o := by
  cases o with
  | none => rfl
  | some r =>
    unfold nextT
    by_cases h : r.act = 1 <;> simp [h, asO, resO]
theorem resO_some (x : Int) : resO (some x) = (x, true) := rfl
theorem resO_none : resO none = (0, false) := rfl

/-! sizes -/
theorem szN_append (x y : Nt) : szN (x ++ y) = szN x + szN y := by
  induction x with
  | nil => simp [szN]
  | cons l x ih => rw [List.cons_append]; simp only [szN]; omega
theorem szN_take_le (N : Nt) (k : Nat) : szN (N.take k) ≤ szN N := by
  have h := szN_append (N.take k) (N.drop k)
  rw [List.take_append_drop] at h
  omega
theorem szN_succ (N : Nt) (k : Nat) (hk : k < N.length) : szN (N.take (k + 1)) = szN (N.take k) + N[k].length := by
  rw [List.take_succ_eq_append_getElem hk, szN_append]
  simp [szN]
theorem szN_bound {N : Nt} {B : Nat} (h : ∀ l ∈ N, l.length ≤ B) : szN N ≤ N.length * B := by
  induction N with
  | nil => simp [szN]
  | cons l N ih =>
    have h1 := ih (fun x hx => h x (List.mem_cons_of_mem _ hx))
    have h2 := h l List.mem_cons_self
    simp only [szN, List.length_cons, Nat.add_mul]
    omega
theorem firstE_drop (N : Nt) (m : Int) (k : Nat) (hk : k < N.length) : firstE m (N.drop k) = if mayT N[k] m ≠ 0 then mayT N[k] m else firstE m (N.drop (k + 1)) := by
  rw [List.drop_eq_getElem_cons hk]
  rfl
theorem firstE_ok {m : Int} : ∀ {N : Nt}, firstE m N = 0 ↔ ∀ l ∈ N, mayT l m = 0
  | [] => by simp [firstE]
  | l :: N => by
    unfold firstE
    by_cases h : mayT l m = 0
    · rw [if_neg (by simpa using h), firstE_ok]
      constructor
      · intro g x hx
        rcases List.mem_cons.1 hx with rfl | hx
        · exact h
        · exact g x hx
      · exact fun g x hx => g x (List.mem_cons_of_mem _ hx)
    · rw [if_pos h]
      constructor
      · exact fun g => absurd g h
      · exact fun g => g l List.mem_cons_self

/-! steps and walks -/
theorem stN_at (N : Nt) (a k : Nat) (hk : k < N.length) : stN N a (k : Int) = asO (nextT (findF N[k] a)) := by
  unfold stN
  rw [if_pos (by omega)]
  simp [hk]
theorem stN_low (N : Nt) (a : Nat) {v : Int} (h : v < 0) : stN N a v = none := by
  unfold stN
  rw [if_neg (by omega)]
theorem stN_high (N : Nt) (a : Nat) {v : Int} (h : (N.length : Int) ≤ v) : stN N a v = none := by
  unfold stN
  rw [if_pos (by omega), List.getElem?_eq_none (by omega)]
theorem stN_in {N : Nt} {a : Nat} {v x : Int} (h : stN N a v = some x) : 0 ≤ v ∧ v < N.length := by
  constructor
  · rcases Int.lt_or_le v 0 with g | g
    · rw [stN_low N a g] at h; cases h
    · exact g
  · rcases Int.lt_or_le v N.length with g | g
    · exact g
    · rw [stN_high N a g] at h; cases h
theorem itN_add (N : Nt) (a : Nat) : ∀ (i k : Nat) (v : Int), itN N a (i + k) v = (itN N a i v).bind (itN N a k)
  | 0, k, v => by rw [Nat.zero_add]; rfl
  | i + 1, k, v => by
    rw [show i + 1 + k = (i + k) + 1 by omega]
    show (stN N a v).bind (itN N a (i + k)) = ((stN N a v).bind (itN N a i)).bind (itN N a k)
    cases stN N a v with
    | none => rfl
    | some w => exact itN_add N a i k w
theorem itN_one (N : Nt) (a : Nat) (v : Int) : itN N a 1 v = stN N a v := by
  show (stN N a v).bind (itN N a 0) = _
  cases stN N a v <;> rfl
theorem itN_snoc (N : Nt) (a k : Nat) (v : Int) : itN N a (k + 1) v = (itN N a k v).bind (stN N a) := by
  rw [itN_add]
  congr 1
  exact funext fun w => itN_one N a w
theorem itN_less {N : Nt} {a k : Nat} {v x : Int} (h : itN N a k v = some x) {i : Nat} (hi : i ≤ k) : ∃ y, itN N a i v = some y := by
  rw [show k = i + (k - i) by omega, itN_add] at h
  cases e : itN N a i v with
  | none => rw [e] at h; cases h
  | some y => exact ⟨y, rfl⟩
/-- each step stays in the first m nodes -/
def InN (N : Nt) (a : Nat) (m : Nat) : Prop := ∀ v x : Int, v < m → stN N a v = some x → 0 ≤ x ∧ x < m
theorem okN_in {N : Nt} (a : Nat) (h : ∀ l ∈ N, OkT l N.length) : InN N a N.length := by
  intro v x hv hs
  obtain ⟨h0, h1⟩ := stN_in hs
  obtain ⟨k, rfl⟩ := Int.eq_ofNat_of_zero_le h0
  have hk : k < N.length := by omega
  rw [stN_at N a k hk] at hs
  cases e : findF N[k] a with
  | none => rw [e] at hs; cases hs
  | some r =>
    rw [e] at hs
    have hr := h N[k] (List.getElem_mem hk) r (find_some e).1
    unfold nextT asO at hs
    by_cases ha : r.act = 1
    · simp [ha] at hs
      subst hs
      rcases (mayRl_ok.1 hr).2 with ⟨_, g1, g2⟩ | ⟨g, _⟩
      · exact ⟨g1, g2⟩
      · omega
    · simp [ha] at hs
theorem itN_in {N : Nt} {a m : Nat} (h : InN N a m) : ∀ {k : Nat} {v x : Int}, 0 ≤ v → v < m → itN N a k v = some x → 0 ≤ x ∧ x < m
  | 0, v, x, h0, h1, e => by injection e with e; omega
  | k + 1, v, x, h0, h1, e => by
    change (stN N a v).bind (itN N a k) = some x at e
    cases g : stN N a v with
    | none => rw [g] at e; cases e
    | some w =>
      rw [g] at e
      have hw := h v w h1 g
      exact itN_in h hw.1 hw.2 e
theorem wkN_ok {N : Nt} {a : Nat} {v k : Int} (h0 : 0 ≤ k) (h1 : k ≤ 256) (h2 : 0 ≤ v) (h3 : v < N.length) : wkN N a v k = itN N a k.toNat v := by
  unfold wkN
  rw [if_neg (by omega)]
theorem wkN_no {N : Nt} {a : Nat} {v k : Int} (h : k < 0 ∨ 256 < k ∨ v < 0 ∨ (N.length : Int) ≤ v) : wkN N a v k = none := by
  unfold wkN
  rw [if_pos h]

/-! periods -/
/-- so many nodes can't be unlike: two places of a row of more than m numbers below m are the same -/
theorem pigeon : ∀ (m : Nat) (f : Nat → Int), (∀ i, i ≤ m → 0 ≤ f i ∧ f i < m) → ∃ i j, i < j ∧ j ≤ m ∧ f i = f j
  | 0, f, h => by have := h 0 (Nat.le_refl _); omega
  | m + 1, f, h => by
    by_cases hx : ∃ i, i ≤ m ∧ f i = f (m + 1)
    · obtain ⟨i, hi, e⟩ := hx
      exact ⟨i, m + 1, by omega, Nat.le_refl _, e⟩
    · have hu : ∀ i, i ≤ m → f i ≠ f (m + 1) := fun i hi e => hx ⟨i, hi, e⟩
      have hl := h (m + 1) (Nat.le_refl _)
      obtain ⟨i, j, h1, h2, h3⟩ := pigeon m (fun i => if f i = m then f (m + 1) else f i) (fun i hi => by
        have h1 := h i (by omega)
        have h2 := hu i hi
        by_cases g : f i = m
        · simp only [g, ↓reduceIte]
          rw [g] at h2
          omega
        · simp only [g, ↓reduceIte]
          omega)
      refine ⟨i, j, h1, by omega, ?_⟩
      have hi := hu i (by omega)
      have hj := hu j h2
      by_cases g1 : f i = m <;> by_cases g2 : f j = m <;> simp only [g1, g2, ↓reduceIte] at h3 <;> omega
theorem period {N : Nt} {a : Nat} {v : Int} {K : Nat} (h : itN N a K v = some v) (n : Nat) : itN N a (K * n) v = some v := by
  induction n with
  | zero => rfl
  | succ n ih => rw [Nat.mul_succ, itN_add, ih]; exact h
/-- who comes back walks for ever -/
theorem ever {N : Nt} {a : Nat} {v : Int} {K : Nat} (hK : 1 ≤ K) (h : itN N a K v = some v) (n : Nat) : ∃ x, itN N a n v = some x :=
  itN_less (period h n) (Nat.le_mul_of_pos_left n hK)
/-- who walks as many steps as there are nodes comes, by then, to one that comes back -/
theorem long_back {N : Nt} {a m : Nat} (hin : InN N a m) {v u : Int} (h0 : 0 ≤ v) (h1 : v < m) (h : itN N a m v = some u) : ∃ k, 1 ≤ k ∧ k ≤ m ∧ itN N a k u = some u := by
  have hx : ∀ i, i ≤ m → ∃ x, itN N a i v = some x := fun i hi => itN_less h hi
  obtain ⟨i, j, hij, hj, e⟩ := pigeon m (fun i => (itN N a i v).getD 0) (fun i hi => by
    obtain ⟨x, hx⟩ := hx i hi
    simp only [hx, Option.getD_some]
    exact itN_in hin h0 h1 hx)
  obtain ⟨x, hxi⟩ := hx i (by omega)
  obtain ⟨y, hyj⟩ := hx j hj
  simp only [hxi, hyj, Option.getD_some] at e
  subst e
  have hp : itN N a (j - i) x = some x := by
    have := hyj
    rw [show j = i + (j - i) by omega, itN_add, hxi] at this
    exact this
  have hu : itN N a (m - i) x = some u := by
    have := h
    rw [show m = i + (m - i) by omega, itN_add, hxi] at this
    exact this
  refine ⟨j - i, by omega, by omega, ?_⟩
  have h3 : itN N a ((j - i) + (m - i)) x = some u := by rw [itN_add, hp]; exact hu
  rw [Nat.add_comm, itN_add, hu] at h3
  exact h3
/-- the first return is within as many steps as there are nodes -/
def First (N : Nt) (a : Nat) (v : Int) (K : Nat) : Prop := 1 ≤ K ∧ itN N a K v = some v ∧ ∀ i, 1 ≤ i → i < K → itN N a i v ≠ some v
theorem first_of {N : Nt} {a : Nat} {v : Int} : ∀ {K : Nat}, 1 ≤ K → itN N a K v = some v → ∃ k, k ≤ K ∧ First N a v k := by
  intro K
  induction K using Nat.strongRecOn with
  | ind K ih =>
    intro h1 h2
    by_cases h : ∃ i, 1 ≤ i ∧ i < K ∧ itN N a i v = some v
    · obtain ⟨i, g1, g2, g3⟩ := h
      obtain ⟨k, k1, k2⟩ := ih i g2 g1 g3
      exact ⟨k, by omega, k2⟩
    · exact ⟨K, Nat.le_refl _, h1, h2, fun i g1 g2 g3 => h ⟨i, g1, g2, g3⟩⟩
theorem first_unlike {N : Nt} {a : Nat} {v : Int} {K : Nat} (h : First N a v K) {i j : Nat} (hij : i < j) (hj : j < K) : itN N a i v ≠ itN N a j v := by
  intro e
  obtain ⟨h1, h2, h3⟩ := h
  obtain ⟨x, hx⟩ := itN_less h2 (Nat.le_of_lt hj)
  have hj2 : itN N a (K - j) x = some v := by
    have := h2
    rw [show K = j + (K - j) by omega, itN_add, hx] at this
    exact this
  rw [hx] at e
  refine h3 (i + (K - j)) (by omega) (by omega) ?_
  rw [itN_add, e]
  exact hj2
theorem first_le {N : Nt} {a m : Nat} (hin : InN N a m) {v : Int} (h0 : 0 ≤ v) (h1 : v < m) {K : Nat} (h : First N a v K) : K ≤ m := by
  rcases Nat.lt_or_ge m K with g | g
  · obtain ⟨i, j, hij, hj, e⟩ := pigeon m (fun i => (itN N a i v).getD 0) (fun i hi => by
      obtain ⟨x, hx⟩ := itN_less h.2.1 (i := i) (by omega)
      simp only [hx, Option.getD_some]
      exact itN_in hin h0 h1 hx)
    obtain ⟨x, hx⟩ := itN_less h.2.1 (i := i) (by omega)
    obtain ⟨y, hy⟩ := itN_less h.2.1 (i := j) (by omega)
    simp only [hx, hy, Option.getD_some] at e
    exact absurd (by rw [hx, hy, e]) (first_unlike h hij (by omega))
  · exact g
theorem first_one {N : Nt} {a : Nat} {v : Int} {K L : Nat} (h : First N a v K) (g : First N a v L) : K = L := by
  rcases Nat.lt_trichotomy K L with e | e | e
  · exact absurd h.2.1 (g.2.2 K h.1 e)
  · exact e
  · exact absurd g.2.1 (h.2.2 L g.1 e)

/-! the loop of a node -/
def path (N : Nt) (a : Nat) (v : Int) (K : Nat) : List Int := (List.range K).map fun i => (itN N a i v).getD 0
theorem path_succ (N : Nt) (a : Nat) (v : Int) (K : Nat) : path N a v (K + 1) = path N a v K ++ [(itN N a K v).getD 0] := by
  unfold path
  rw [List.range_succ, List.map_append]
  rfl
theorem path_one (N : Nt) (a : Nat) (v : Int) : path N a v 1 = [v] := rfl
theorem path_len (N : Nt) (a : Nat) (v : Int) (K : Nat) : (path N a v K).length = K := by simp [path]
theorem path_at (N : Nt) (a : Nat) (v : Int) (K i : Nat) (hi : i < (path N a v K).length) : (path N a v K)[i] = (itN N a i v).getD 0 := by simp [path]
theorem chase_yes (N : Nt) (a : Nat) (v : Int) : ∀ (f j K : Nat), 1 ≤ j → j ≤ K → K ≤ j + f → First N a v K → chase N a v f (itN N a j v) (path N a v j) = some (path N a v K) := by
  intro f
  induction f with
  | zero =>
    intro j K h1 h2 h3 h
    obtain rfl : j = K := by omega
    rw [h.2.1]
    simp [chase]
  | succ f ih =>
    intro j K h1 h2 h3 h
    rcases Nat.lt_or_ge j K with g | g
    · obtain ⟨w, hw⟩ := itN_less h.2.1 (Nat.le_of_lt g)
      have hne := h.2.2 j h1 g
      rw [hw] at hne ⊢
      have hwv : w ≠ v := fun e => hne (by rw [e])
      have := ih (j + 1) K (by omega) (by omega) (by omega) h
      rw [path_succ, hw, itN_snoc, hw] at this
      simp only [chase, hwv, ↓reduceIte]
      exact this
    · obtain rfl : j = K := by omega
      rw [h.2.1]
      simp [chase]
theorem chase_no (N : Nt) (a : Nat) (v : Int) : ∀ (f j : Nat), (∀ k, j ≤ k → k ≤ j + f → itN N a k v ≠ some v) → ∀ acc, chase N a v f (itN N a j v) acc = none := by
  intro f
  induction f with
  | zero =>
    intro j h acc
    have := h j (Nat.le_refl _) (Nat.le_refl _)
    cases e : itN N a j v with
    | none => rfl
    | some w =>
      rw [e] at this
      simp only [chase]
      rw [if_neg (fun g => this (by rw [g]))]
  | succ f ih =>
    intro j h acc
    have h0 := h j (Nat.le_refl _) (by omega)
    cases e : itN N a j v with
    | none => rfl
    | some w =>
      rw [e] at h0
      have := ih (j + 1) (fun k g1 g2 => h k (by omega) (by omega)) (acc ++ [w])
      rw [itN_snoc, e] at this
      simp only [chase]
      rw [if_neg (fun g => h0 (by rw [g]))]
      exact this
theorem lpAt_yes {N : Nt} {a : Nat} {v : Int} {K : Nat} (h : First N a v K) (hK : K ≤ N.length) : lpAt N a v = some (path N a v K) := by
  have := chase_yes N a v (N.length - 1) 1 K (Nat.le_refl _) h.1 (by have := h.1; omega) h
  rw [itN_one, path_one] at this
  exact this
theorem lpAt_no {N : Nt} {a : Nat} {v : Int} (h : ∀ k, 1 ≤ k → k ≤ N.length → itN N a k v ≠ some v) (hn : 1 ≤ N.length) : lpAt N a v = none := by
  have := chase_no N a v (N.length - 1) 1 (fun k g1 g2 => h k g1 (by omega)) [v]
  rw [itN_one] at this
  exact this
/-- v comes back within as many steps as there are nodes -/
def Back (N : Nt) (a : Nat) (v : Int) : Prop := ∃ k, 1 ≤ k ∧ k ≤ N.length ∧ itN N a k v = some v
theorem back_first {N : Nt} {a : Nat} {v : Int} (h : Back N a v) : ∃ K, K ≤ N.length ∧ First N a v K := by
  obtain ⟨k, h1, h2, h3⟩ := h
  obtain ⟨K, g1, g2⟩ := first_of h1 h3
  exact ⟨K, by omega, g2⟩
theorem lpAt_none {N : Nt} {a : Nat} {v : Int} (hn : 1 ≤ N.length) (h : ¬ Back N a v) : lpAt N a v = none := lpAt_no (fun k g1 g2 g3 => h ⟨k, g1, g2, g3⟩) hn
theorem lpFrom_none (N : Nt) (a : Nat) : ∀ (f v : Nat), (∀ u : Nat, v ≤ u → u < v + f → lpAt N a u = none) → lpFrom N a f v = none
  | 0, _, _ => rfl
  | f + 1, v, h => by
    unfold lpFrom
    rw [h v (Nat.le_refl _) (by omega)]
    exact lpFrom_none N a f (v + 1) (fun u g1 g2 => h u (by omega) (by omega))
theorem lpFrom_some (N : Nt) (a : Nat) : ∀ (f v u : Nat) (l : List Int), v ≤ u → u < v + f → lpAt N a u = some l → (∀ t : Nat, v ≤ t → t < u → lpAt N a t = none) → lpFrom N a f v = some l
  | 0, v, u, l, h1, h2, _, _ => by omega
  | f + 1, v, u, l, h1, h2, h3, h4 => by
    unfold lpFrom
    rcases Nat.lt_or_ge v u with g | g
    · rw [h4 v (Nat.le_refl _) g]
      exact lpFrom_some N a f (v + 1) u l g (by omega) h3 (fun t g1 g2 => h4 t (by omega) g2)
    · obtain rfl : v = u := by omega
      rw [h3]
/-- the loop: of the least node that comes back -/
theorem lpN_yes {N : Nt} {a u K : Nat} (hu : u < N.length) (h : First N a u K) (hK : K ≤ N.length) (hl : ∀ t : Nat, t < u → ¬ Back N a t) : lpN N a = some (path N a u K) :=
  lpFrom_some N a N.length 0 u _ (Nat.zero_le _) (by omega) (lpAt_yes h hK) (fun t _ g => lpAt_none (by omega) (hl t g))
theorem lpN_no {N : Nt} {a : Nat} (h : ∀ t : Nat, t < N.length → ¬ Back N a t) : lpN N a = none :=
  lpFrom_none N a N.length 0 (fun t _ g => lpAt_none (by omega) (h t (by omega)))
theorem least_back {N : Nt} {a : Nat} : ∀ n : Nat, (∃ t : Nat, t < n ∧ Back N a t) → ∃ u : Nat, u < n ∧ Back N a u ∧ ∀ t : Nat, t < u → ¬ Back N a t
  | 0, h => by obtain ⟨t, h1, _⟩ := h; omega
  | n + 1, h => by
    by_cases g : ∃ t : Nat, t < n ∧ Back N a t
    · obtain ⟨u, u1, u2, u3⟩ := least_back n g
      exact ⟨u, by omega, u2, u3⟩
    · obtain ⟨t, h1, h2⟩ := h
      refine ⟨t, h1, h2, fun s hs hb => g ⟨s, by omega, hb⟩⟩
/-- what Loop tells, either way -/
theorem lpN_or (N : Nt) (a : Nat) : (lpN N a = none ∧ ∀ t : Nat, t < N.length → ¬ Back N a t) ∨ ∃ u K : Nat, u < N.length ∧ K ≤ N.length ∧ First N a u K ∧ lpN N a = some (path N a u K) ∧ ∀ t : Nat, t < u → ¬ Back N a t := by
  by_cases g : ∃ t : Nat, t < N.length ∧ Back N a t
  · obtain ⟨u, u1, u2, u3⟩ := least_back N.length g
    obtain ⟨K, k1, k2⟩ := back_first u2
    exact .inr ⟨u, K, u1, k1, k2, lpN_yes u1 k2 k1 u3, u3⟩
  · have hn : ∀ t : Nat, t < N.length → ¬ Back N a t := fun t h1 h2 => g ⟨t, h1, h2⟩
    exact .inl ⟨lpN_no hn, hn⟩
end Go.Proofs.Ytpfpkghihpcbkaa
