/- Rows of rules: cells, cuts; appends of elements of four cells. No function of the program is named here. -/
import Derived.Test.YtohggpaffmcfoaaDoorBase
import Derived.Test.YtohggpaffmcfoaaDoorMath
import Derived.Test.YtohggpaffmcfoaaDoorRcs
namespace Go.Proofs.YtohggpaffmcfoaaDoor
open Go.RowKit
set_option linter.unusedVariables false
set_option maxRecDepth 100000
set_option linter.unusedSimpArgs false

def rcell (r : Rl) : List Value := [.int .u32 (r.at_ : Int), .int .i64 r.len, .int .i64 r.act, .int .i64 r.nxt]
def rcells (l : List Rl) : List Value := l.flatMap rcell
theorem rcells_nil : rcells [] = [] := rfl
theorem rcells_cons (r : Rl) (l : List Rl) : rcells (r :: l) = rcell r ++ rcells l := rfl
theorem rcells_append (a b : List Rl) : rcells (a ++ b) = rcells a ++ rcells b := by simp [rcells]
theorem rcells_length (l : List Rl) : (rcells l).length = l.length * 4 := by
  induction l with
  | nil => rfl
  | cons r l ih => rw [rcells_cons, List.length_append, ih]; simp [rcell]; omega
theorem rcells_at : ∀ (l : List Rl) (k j : Nat) (hk : k < l.length), j < 4 → (rcells l)[k * 4 + j]? = (rcell l[k])[j]?
  | r :: l, 0, j, _, hj => by
    rw [rcells_cons, Nat.zero_mul, Nat.zero_add, List.getElem?_append_left (by simpa [rcell] using hj)]
    rfl
  | r :: l, k + 1, j, hk, hj => by
    rw [rcells_cons, List.getElem?_append_right (by simp [rcell]; omega)]
    have := rcells_at l k j (by simpa using hk) hj
    rw [show (k + 1) * 4 + j - (rcell r).length = k * 4 + j by simp [rcell]; omega, this]
    rfl
theorem rcells_drop (l : List Rl) (k : Nat) : rcells (l.drop k) = (rcells l).drop (k * 4) := by
  induction l generalizing k with
  | nil => simp [rcells]
  | cons r l ih =>
    cases k with
    | zero => simp
    | succ k =>
      rw [List.drop_succ_cons, ih, rcells_cons, show (k + 1) * 4 = (rcell r).length + k * 4 by simp [rcell]; omega, List.drop_length_add_append]
theorem rcells_take (l : List Rl) (k : Nat) : rcells (l.take k) = (rcells l).take (k * 4) := by
  induction l generalizing k with
  | nil => simp [rcells]
  | cons r l ih =>
    cases k with
    | zero => simp [rcells]
    | succ k =>
      rw [List.take_succ_cons, rcells_cons, ih, rcells_cons, show (k + 1) * 4 = (rcell r).length + k * 4 by simp [rcell]; omega, List.take_length_add_append]
theorem rcells_one (l : List Rl) : ∀ u ∈ rcells l, u.oneCell' = true := by
  intro u hu
  simp only [rcells, List.mem_flatMap] at hu
  obtain ⟨r, _, hr⟩ := hu
  simp [rcell] at hr
  rcases hr with rfl | rfl | rfl | rfl <;> rfl
/-- a slice value that reads as rules -/
def IsR (w : World) (v : Value) (l : List Rl) : Prop := ∃ A n c, v = .slice A n c ∧ n ≤ c ∧ c ≤ maxLen ∧ l.length = n ∧ Has w A (rcells l)
theorem IsR.bel {w w' : World} {v : Value} {l : List Rl} (h : IsR w v l) (hb : Below w.heap.size w w') : IsR w' v l := by
  obtain ⟨A, n, c, rfl, h1, h2, h3, h4⟩ := h
  exact ⟨A, n, c, rfl, h1, h2, h3, h4.bel hb⟩
theorem IsR.of_own {w : World} {base : Nat} {e : TypeId} {v : Value} {n : Nat} {l : List Rl} (h : w.ownsRow base e 4 v n (rcells l)) : IsR w v l := by
  have hl := h.1
  rw [rcells_length] at hl
  have hn : l.length = n := by omega
  rcases h.2 with ⟨rfl, rfl⟩ | ⟨g, cap, cur, rfl, hb, hg, hnc, hcm, hs, ht⟩
  · exact ⟨none, 0, 0, rfl, Nat.le_refl _, Nat.zero_le _, hn, fun h0 => absurd h0 (by rw [rcells_length]; omega)⟩
  · refine ⟨_, n, cap, rfl, hnc, hcm, hn, fun _ => ⟨_, rfl, fun j u hu => ?_⟩⟩
    have := h.cellAt (j := j) (by
      have : j < (rcells l).length := by
        rcases Nat.lt_or_ge j (rcells l).length with h1 | h1
        · exact h1
        · rw [List.getElem?_eq_none h1] at hu; cases hu
      rw [rcells_length] at this
      omega)
    rw [add_plain, Nat.zero_add, this]
    exact hu
theorem IsR.has' {w : World} {A : Option Addr} {n c : Nat} {l : List Rl} (h : IsR w (.slice A n c) l) : Has w A (rcells l) := by
  obtain ⟨A', n', c', e, _, _, _, h4⟩ := h
  injection e with e1 e2 e3
  subst e1
  exact h4
/-- the cells of one rule of a row -/
theorem Has.rule {w : World} {ad : Addr} {l : List Rl} (h : Has w (some ad) (rcells l)) (k : Nat) (hk : k < l.length) (j : Nat) (hj : j < 4) : w.cell? (ad.add (k * 4 + j)) = (rcell l[k])[j]? := by
  obtain ⟨ad', he, hc⟩ := h (by rw [rcells_length]; omega)
  injection he with he
  subst he
  have e := rcells_at l k j hk hj
  have hj2 : j < (rcell l[k]).length := by simpa [rcell] using hj
  rw [hc (k * 4 + j) _ (e.trans (List.getElem?_eq_getElem hj2)), List.getElem?_eq_getElem hj2]
section
variable {P : Program} (w : World)
/-- append of elements of four cells onto a row of the call's own, whatever the source. -/
theorem run_append4 (base : Nat) (t ty e : TypeId) (i : TypeInfo) (z : Value) (bytes : Nat) (ht : P.underlying t = some (.slice e)) (hi : P.info? e = some i) (hz : i.zero = some z)
    (hsize : i.size = 4) (hby : i.bytes = bytes) (hzs : z.cells.size = 4)
    (v : Value) (n : Nat) (xs : List Value) (hown : w.ownsRow base e 4 v n xs)
    (A : Option Addr) (m c : Nat) (news : List Value) (hm : news.length = m * 4) (hr : Has w A news) (h1 : ∀ u ∈ news, u.oneCell' = true)
    (h63 : n + m ≤ maxLen) (hbytes : (n + m) * bytes ≤ 140737488355328) (hbase : base ≤ w.heap.size) :
    ∃ v' w', (Builtin.append_ #[t, t] ty #[v, .slice A m c]).run P w = .ok v' w' ∧ w'.ownsRow base e 4 v' (n + m) (xs ++ news) ∧ w.grownBy w' v.ownBlock ∧
      (v'.ownBlock = v.ownBlock ∨ v'.ownBlock = some w.heap.size) := by
  rcases A with _ | ad
  · have hn : news = [] := by
      cases news with
      | nil => rfl
      | cons a l => exact absurd (hr (by simp)) (by simp)
    subst hn
    obtain rfl : m = 0 := by simp at hm; omega
    exact ⟨v, w, run_append_of_nil w base t ty e i 4 ht hi v n xs hown c, by simpa using hown, World.grownBy.refl w _, .inl rfl⟩
  · have hcells : ∀ j u, news[j]? = some u → w.cell? (ad.add j) = some u := by
      intro j u hu
      have hlt : 0 < news.length := by
        cases news with
        | nil => simp at hu
        | cons a l => simp
      obtain ⟨ad', h, hc⟩ := hr hlt
      injection h with h
      subst h
      exact hc j u hu
    obtain ⟨v', w', hrun, h2, h3, _, h5⟩ := run_append_own_at (P := P) w base t ty e i z 4 bytes ht hi hz hsize hby hzs (by omega) v n xs hown ad m c news hm hcells h1 h63 hbytes hbase
    exact ⟨v', w', hrun, h2, h3, h5⟩

theorem wp_append4 {o : Oper} {a : Act} {K : Act → World → Prop} {Q : Exit → Act → World → Prop} (s x : Operand) (t : TypeId)
    (ho : o.op = .call { callee := .builtin .append, args := #[s, x], argTypes := #[t, t] })
    (base : Nat) (e : TypeId) (i : TypeInfo) (z : Value) (bytes : Nat) (ht : P.underlying t = some (.slice e)) (hi : P.info? e = some i) (hz : i.zero = some z)
    (hsize : i.size = 4) (hby : i.bytes = bytes) (hzs : z.cells.size = 4)
    (v : Value) (n : Nat) (xs : List Value) (hs : a.eval s = v) (hown : w.ownsRow base e 4 v n xs)
    (A : Option Addr) (m c : Nat) (news : List Value) (hx : a.eval x = .slice A m c) (hm : news.length = m * 4) (hr : Has w A news) (h1 : ∀ u ∈ news, u.oneCell' = true)
    (h63 : n + m ≤ maxLen) (hbytes : (n + m) * bytes ≤ 140737488355328) (hbase : base ≤ w.heap.size)
    (h : ∀ v' w', w'.ownsRow base e 4 v' (n + m) (xs ++ news) → w.grownBy w' v.ownBlock → (v'.ownBlock = v.ownBlock ∨ v'.ownBlock = some w.heap.size) → K (a.put o.dst v') w') : o.wp P a w K Q := by
  obtain ⟨v', w', hrun, h2, h3, h4⟩ := run_append4 (P := P) w base t o.type e i z bytes ht hi hz hsize hby hzs v n xs hown A m c news hm hr h1 h63 hbytes hbase
  unfold Oper.wp execOp
  simp only [ho, resolve, invoke, builtin, Sem.run_bind, Sem.run_pure, Result.andThen_ok, List.map_toArray, List.map_cons, List.map_nil, hs, hx, hrun]
  exact h v' w' h2 h3 h4

theorem wpList_append4 {ops : Array Oper} {rest : List Oper} {o : Oper} {a : Act} {Q : Exit → Act → World → Prop} (hgd : o.guard = none) (s x : Operand) (t : TypeId)
    (ho : o.op = .call { callee := .builtin .append, args := #[s, x], argTypes := #[t, t] })
    (base : Nat) (e : TypeId) (i : TypeInfo) (z : Value) (bytes : Nat) (ht : P.underlying t = some (.slice e)) (hi : P.info? e = some i) (hz : i.zero = some z)
    (hsize : i.size = 4) (hby : i.bytes = bytes) (hzs : z.cells.size = 4)
    (v : Value) (n : Nat) (xs : List Value) (hs : a.eval s = v) (hown : w.ownsRow base e 4 v n xs)
    (A : Option Addr) (m c : Nat) (news : List Value) (hx : a.eval x = .slice A m c) (hm : news.length = m * 4) (hr : Has w A news) (h1 : ∀ u ∈ news, u.oneCell' = true)
    (h63 : n + m ≤ maxLen) (hbytes : (n + m) * bytes ≤ 140737488355328) (hbase : base ≤ w.heap.size)
    (h : ∀ v' w', w'.ownsRow base e 4 v' (n + m) (xs ++ news) → w.grownBy w' v.ownBlock → (v'.ownBlock = v.ownBlock ∨ v'.ownBlock = some w.heap.size) → wpList P ops Q rest (a.put o.dst v') w') : wpList P ops Q (o :: rest) a w :=
  wpList_plain hgd fun _ hK => wp_append4 w s x t ho base e i z bytes ht hi hz hsize hby hzs v n xs hs hown A m c news hx hm hr h1 h63 hbytes hbase fun v' w' h2 h3 h4 => hK _ _ (h v' w' h2 h3 h4)
theorem step_append4 {ops : Array Oper} {o : Oper} {a : Act} {K : Act → World → Prop} {Q : Exit → Act → World → Prop} {E : Prop} (hgd : o.guard = none) (s x : Operand) (t : TypeId)
    (ho : o.op = .call { callee := .builtin .append, args := #[s, x], argTypes := #[t, t] })
    (base : Nat) (e : TypeId) (i : TypeInfo) (z : Value) (bytes : Nat) (ht : P.underlying t = some (.slice e)) (hi : P.info? e = some i) (hz : i.zero = some z)
    (hsize : i.size = 4) (hby : i.bytes = bytes) (hzs : z.cells.size = 4)
    (v : Value) (n : Nat) (xs : List Value) (hs : a.eval s = v) (hown : w.ownsRow base e 4 v n xs)
    (A : Option Addr) (m c : Nat) (news : List Value) (hx : a.eval x = .slice A m c) (hm : news.length = m * 4) (hr : Has w A news) (h1 : ∀ u ∈ news, u.oneCell' = true)
    (h63 : n + m ≤ maxLen) (hbytes : (n + m) * bytes ≤ 140737488355328) (hbase : base ≤ w.heap.size)
    (h : ∀ v' w', w'.ownsRow base e 4 v' (n + m) (xs ++ news) → w.grownBy w' v.ownBlock → (v'.ownBlock = v.ownBlock ∨ v'.ownBlock = some w.heap.size) → K (a.put o.dst v') w') :
    if Region.wanted o (yielded ops a.tmps) = true then Oper.wp P o a w K Q else E := by
  have hw : Region.wanted o (yielded ops a.tmps) = true := by simp [Region.wanted, hgd]
  rw [if_pos hw]
  exact wp_append4 w s x t ho base e i z bytes ht hi hz hsize hby hzs v n xs hs hown A m c news hx hm hr h1 h63 hbytes hbase h
end
theorem add_one (P : Addr) (j : Nat) (hj : 0 < j) : P.add j = ⟨P.block, P.off + j, none⟩ := by unfold Addr.add; rw [if_neg (by omega)]
/-- a rule's four cells, as a walk asks for them -/
def Four (w : World) (P : Addr) (r : Rl) : Prop := w.cell? P = some (.int .u32 (r.at_ : Int)) ∧ w.cell? ⟨P.block, P.off + 1, none⟩ = some (.int .i64 r.len) ∧ w.cell? ⟨P.block, P.off + 2, none⟩ = some (.int .i64 r.act) ∧ w.cell? ⟨P.block, P.off + 3, none⟩ = some (.int .i64 r.nxt)
theorem Has.four {w : World} {ad : Addr} {l : List Rl} (h : Has w (some ad) (rcells l)) (k : Nat) (hk : k < l.length) : Four w (ad.add (k * 4)) l[k] := by
  have h0 := h.rule k hk 0 (by omega)
  have h1 := h.rule k hk 1 (by omega)
  have h2 := h.rule k hk 2 (by omega)
  have h3 := h.rule k hk 3 (by omega)
  rw [← add_of_add, add_one _ 1 (by omega)] at h1
  rw [← add_of_add, add_one _ 2 (by omega)] at h2
  rw [← add_of_add, add_one _ 3 (by omega)] at h3
  exact ⟨h0, h1, h2, h3⟩
theorem rule_info : (Tryd.prog.info? 47).map (fun i => (i.zero, i.size, i.bytes)) = some (some (.agg #[.int .u32 0, .int .i64 0, .int .i64 0, .int .i64 0]), 4, 32) := by kernel_rfl
end Go.Proofs.YtohggpaffmcfoaaDoor
