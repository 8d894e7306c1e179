/- Plain words of the proofs: slices that read as lists of cells, rows of the call's own, bytes as strings. No function of the program is named here. | What a byte is to the program: one cell of one byte, 0 at first. | How arguments that came in are opened for a walk: bytes, numbers, arrays of numbers. No function of the program is named here. -/
import Derived.Test.YtohggpaffmcfoaaDoorChecked
import Derived.WalkKit
import Derived.WalkLawsBesides
import Derived.WalkSpells
import Derived.IntWalk
import Derived.Handy
import Derived.Lib.Hide
import Derived.Laws.BytesArg
import Derived.Laws.IdiomStrings
import Derived.Laws.OwnMore
import Derived.Maps.AppendAt
import Derived.Deep.AppendLies
import Derived.Deep.Draws
import Derived.Deep.QuietTactic
import Derived.Deep.DeepFit
import Derived.BigQuiet
import Derived.ProofKit
import Derived.OpenShut
section
namespace Go.Proofs.YtohggpaffmcfoaaDoor
open Go.RowKit
set_option linter.unusedVariables false
set_option maxRecDepth 100000
set_option linter.unusedSimpArgs false

theorem block_of_add (a : Addr) (n : Nat) : (a.add n).block = a.block := by unfold Addr.add; split <;> rfl
theorem addr_zero (a : Addr) : a.add 0 = a := by simp [Addr.add]
theorem add_of_add (a : Addr) (i j : Nat) : (a.add i).add j = a.add (i + j) := by
  unfold Addr.add
  by_cases hi : i = 0 <;> by_cases hj : j = 0 <;> simp [hi, hj, Nat.add_assoc]

/-- THE CELLS FROM A ON ARE xs (an address is asked for only if there is one). -/
def Has (w : World) (A : Option Addr) (xs : List Value) : Prop :=
  0 < xs.length → ∃ ad, A = some ad ∧ ∀ j u, xs[j]? = some u → w.cell? (ad.add j) = some u

section
variable {w w' : World} {A : Option Addr} {xs : List Value}
theorem Has.nil_ (w : World) (A : Option Addr) : Has w A [] := fun h => absurd h (by simp)
theorem Has.at_ {k : Nat} (h : Has w A xs) (hk : k < xs.length) : ∃ ad, A = some ad ∧ w.cell? (ad.add k) = some xs[k] := by
  obtain ⟨ad, e, hc⟩ := h (by omega)
  exact ⟨ad, e, hc k _ (List.getElem?_eq_getElem hk)⟩
theorem Has.keep (h : Has w A xs) (hk : ∀ p : Addr, p.block < w.heap.size → w'.cell? p = w.cell? p) : Has w' A xs := fun hn => by
  obtain ⟨ad, e, hc⟩ := h hn
  refine ⟨ad, e, fun j u hu => ?_⟩
  have h1 := hc j u hu
  rw [hk _ (World.block_lt_of_cell? w _ h1)]
  exact h1
theorem Has.below {B : Nat} (h : Has w A xs) (hb : Below B w w') (hB : w.heap.size ≤ B) : Has w' A xs := h.keep fun p hp => hb.cell (by omega)
theorem Has.bel (h : Has w A xs) (hb : Below w.heap.size w w') : Has w' A xs := h.below hb (Nat.le_refl _)
theorem Has.drew (h : Has w A xs) : Has w.drew A xs := h
theorem Has.drewN (h : Has w A xs) (k : Nat) : Has (w.drewN k) A xs := h
theorem Has.alloc (h : Has w A xs) (o : Obj) : Has (w.alloc o) A xs := h.keep fun p hp => World.cell?_alloc_lt w o p (by omega)
theorem Has.grown {row : Option Nat} (h : Has w A xs) (hg : w.grownBy w' row) (hr : ∀ a, A = some a → row ≠ some a.block) : Has w' A xs := fun hn => by
  obtain ⟨ad, e, hc⟩ := h hn
  refine ⟨ad, e, fun j u hu => ?_⟩
  have h1 := hc j u hu
  have hlt := World.block_lt_of_cell? w _ h1
  rw [World.cell?_of_block (hg.block _ hlt (fun e2 => hr ad e (by rw [← e2, block_of_add])))]
  exact h1
theorem Has.cut {k cap : Nat} (h : Has w A xs) (hc : xs.length ≤ cap) : Has w (if cap = k then A else A.map (·.add k)) (xs.drop k) := by
  intro hn
  rw [List.length_drop] at hn
  obtain ⟨ad, rfl, hcell⟩ := h (by omega)
  rw [if_neg (by omega)]
  refine ⟨ad.add k, rfl, fun j u hu => ?_⟩
  rw [add_of_add]
  exact hcell _ u (by rw [← hu, List.getElem?_drop])
theorem add_plain (g o k : Nat) : (⟨g, o, none⟩ : Addr).add k = ⟨g, o + k, none⟩ := by unfold Addr.add; split <;> simp_all
theorem Has.off {g o k : Nat} (h : Has w (some ⟨g, o, none⟩) xs) : Has w (some ⟨g, o + k, none⟩) (xs.drop k) := by
  intro hn
  rw [List.length_drop] at hn
  obtain ⟨ad, he, hcell⟩ := h (by omega)
  injection he with he
  subst he
  refine ⟨_, rfl, fun j u hu => ?_⟩
  rw [← add_plain, add_of_add]
  exact hcell _ u (by rw [← hu, List.getElem?_drop])
theorem Has.addk {ad : Addr} (h : Has w (some ad) xs) (k : Nat) : Has w (some (ad.add k)) (xs.drop k) := by
  intro hn
  rw [List.length_drop] at hn
  obtain ⟨ad', he, hcell⟩ := h (by omega)
  injection he with he
  subst he
  refine ⟨_, rfl, fun j u hu => ?_⟩
  rw [add_of_add]
  exact hcell _ u (by rw [← hu, List.getElem?_drop])
theorem Has.take (h : Has w A xs) (k : Nat) : Has w A (xs.take k) := by
  intro hn
  rw [List.length_take] at hn
  obtain ⟨ad, rfl, hcell⟩ := h (by omega)
  refine ⟨ad, rfl, fun j u hu => hcell j u ?_⟩
  rw [List.getElem?_take] at hu
  split at hu
  · exact hu
  · cases hu
theorem Has.of_own {base : Nat} {e : TypeId} {n c : Nat} (h : w.ownsRow base e 1 (.slice A n c) n xs) : Has w A xs := fun hn => by
  obtain ⟨g, cap, hv, _, hlt⟩ := h.form (by have := h.1; omega)
  have hA : A = some ⟨g, 0, none⟩ := by injection hv
  subst hA
  exact ⟨_, rfl, h.cells (g := g) rfl⟩
end

theorem Has.new (w : World) (xs : List Value) (t : TypeId) (fr : Nat × Nat) : Has (w.alloc (.cells xs.toArray t fr)) (some ⟨w.heap.size, 0, none⟩) xs := fun _ => by
  refine ⟨_, rfl, fun j u hu => ?_⟩
  rw [add_plain, Nat.zero_add, World.cell?_alloc_mark, List.getElem?_toArray]
  exact hu

/-- Where a cut begins: the walk's own word for 's[k:]', kept closed ('attribute [local go_sem ↓] sliced_cut' ahead of a walk): else the walk parts on 'cap = k'. -/
def cutA (a : Option Addr) (m l s : Nat) : Option Addr := if m = l then a else a.map (·.add (l * s))
theorem sliced_cut (a : Option Addr) (l h m s : Nat) : sliced a l h m s = .slice (cutA a m l s) (h - l) (m - l) := rfl
theorem cutA_zero (a : Option Addr) (m s : Nat) : cutA a m 0 s = a := by
  unfold cutA
  split
  · rfl
  · cases a with
    | none => rfl
    | some a => simp [Addr.add]
theorem Has.cutA {w : World} {A : Option Addr} {xs : List Value} (h : Has w A xs) {k cap : Nat} (hc : xs.length ≤ cap) : Has w (cutA A cap k 1) (xs.drop k) := by
  unfold Go.Proofs.YtohggpaffmcfoaaDoor.cutA
  rw [Nat.mul_one]
  exact h.cut hc

/-- Bytes as cells; numbers as cells. -/
def vals (l : List UInt8) : List Value := l.map fun b => .int .u8 (b.toNat : Int)
def ints (l : List Int) : List Value := l.map fun n => .int .i64 n
theorem vals_length (l : List UInt8) : (vals l).length = l.length := by simp [vals]
theorem ints_length (l : List Int) : (ints l).length = l.length := by simp [ints]
theorem vals_drop (l : List UInt8) (k : Nat) : vals (l.drop k) = (vals l).drop k := by simp [vals, List.map_drop]
theorem vals_take (l : List UInt8) (k : Nat) : vals (l.take k) = (vals l).take k := by simp [vals, List.map_take]
theorem Has.offv {w : World} {g o k : Nat} {l : List UInt8} (h : Has w (some ⟨g, o, none⟩) (vals l)) : Has w (some ⟨g, o + k, none⟩) (vals (l.drop k)) := by
  rw [vals_drop]
  exact h.off
theorem ints_drop (l : List Int) (k : Nat) : ints (l.drop k) = (ints l).drop k := by simp [ints, List.map_drop]
theorem ints_take (l : List Int) (k : Nat) : ints (l.take k) = (ints l).take k := by simp [ints, List.map_take]
theorem vals_append (a b : List UInt8) : vals (a ++ b) = vals a ++ vals b := by simp [vals]
theorem ints_append (a b : List Int) : ints (a ++ b) = ints a ++ ints b := by simp [ints]
theorem vals_at (l : List UInt8) (k : Nat) (h : k < l.length) : (vals l)[k]'(by rw [vals_length]; exact h) = .int .u8 (l[k].toNat : Int) := by simp [vals]
theorem ints_at (l : List Int) (k : Nat) (h : k < l.length) : (ints l)[k]'(by rw [ints_length]; exact h) = .int .i64 l[k] := by simp [ints]
theorem vals_one (l : List UInt8) : ∀ u ∈ vals l, u.oneCell' = true := by
  intro u hu
  simp only [vals, List.mem_map] at hu
  obtain ⟨b, _, rfl⟩ := hu
  rfl
theorem ints_one (l : List Int) : ∀ u ∈ ints l, u.oneCell' = true := by
  intro u hu
  simp only [ints, List.mem_map] at hu
  obtain ⟨b, _, rfl⟩ := hu
  rfl

/-- A slice value that reads as xs, one cell an element. -/
def Sl (w : World) (v : Value) (n : Nat) (xs : List Value) : Prop := ∃ A c, v = .slice A n c ∧ n ≤ c ∧ c ≤ maxLen ∧ xs.length = n ∧ Has w A xs
theorem Sl.of_own {w : World} {base : Nat} {e : TypeId} {v : Value} {n : Nat} {xs : List Value} (h : w.ownsRow base e 1 v n xs) : Sl w v n xs := by
  have hl := h.1
  rcases h.2 with ⟨rfl, rfl⟩ | ⟨g, cap, cur, rfl, _, _, hnc, hcm, _⟩
  · exact ⟨none, 0, rfl, Nat.le_refl _, Nat.zero_le _, by simpa using hl, Has.of_own h⟩
  · exact ⟨_, cap, rfl, hnc, hcm, by simpa using hl, Has.of_own h⟩

/-- A slice value that reads as bytes; as numbers. -/
def IsB (w : World) (v : Value) (bs : List UInt8) : Prop := ∃ A n c, v = .slice A n c ∧ n ≤ c ∧ c ≤ maxLen ∧ bs.length = n ∧ Has w A (vals bs)
def IsI (w : World) (v : Value) (l : List Int) : Prop := ∃ A n c, v = .slice A n c ∧ n ≤ c ∧ c ≤ maxLen ∧ l.length = n ∧ Has w A (ints l)
theorem IsB.nil_ (w : World) : IsB w (.slice none 0 0) [] := ⟨_, _, _, rfl, Nat.le_refl _, Nat.zero_le _, rfl, Has.nil_ _ _⟩
theorem IsI.nil_ (w : World) : IsI w (.slice none 0 0) [] := ⟨_, _, _, rfl, Nat.le_refl _, Nat.zero_le _, rfl, Has.nil_ _ _⟩
theorem IsB.of_own {w : World} {base : Nat} {e : TypeId} {v : Value} {n : Nat} {bs : List UInt8} (h : w.ownsRow base e 1 v n (vals bs)) : IsB w v bs := by
  obtain ⟨A, c, rfl, h1, h2, h3, h4⟩ := Sl.of_own h
  rw [vals_length] at h3
  exact ⟨A, n, c, rfl, h1, h2, h3, h4⟩
theorem IsI.of_own {w : World} {base : Nat} {e : TypeId} {v : Value} {n : Nat} {l : List Int} (h : w.ownsRow base e 1 v n (ints l)) : IsI w v l := by
  obtain ⟨A, c, rfl, h1, h2, h3, h4⟩ := Sl.of_own h
  rw [ints_length] at h3
  exact ⟨A, n, c, rfl, h1, h2, h3, h4⟩
theorem IsB.bel {w w' : World} {v : Value} {bs : List UInt8} (h : IsB w v bs) (hb : Below w.heap.size w w') : IsB w' v bs := by
  obtain ⟨A, n, c, rfl, h1, h2, h3, h4⟩ := h
  exact ⟨A, n, c, rfl, h1, h2, h3, h4.bel hb⟩
theorem IsI.bel {w w' : World} {v : Value} {l : List Int} (h : IsI w v l) (hb : Below w.heap.size w w') : IsI w' v l := by
  obtain ⟨A, n, c, rfl, h1, h2, h3, h4⟩ := h
  exact ⟨A, n, c, rfl, h1, h2, h3, h4.bel hb⟩
theorem IsB.new (w : World) (bs : List UInt8) (t : TypeId) (fr : Nat × Nat) (n : Nat) (hn : bs.length = n) (hm : n ≤ maxLen) : IsB (w.alloc (.cells (vals bs).toArray t fr)) (.slice (some ⟨w.heap.size, 0, none⟩) n n) bs :=
  ⟨_, _, _, rfl, Nat.le_refl _, hm, hn, Has.new _ _ _ _⟩

section
variable {P : Program} (w : World)
theorem run_load_has (A : Addr) (xs : List Value) (h : Has w (some A) xs) : (loadCells A xs.length).run P w = .ok xs.toArray w := by
  refine run_loadCells_list (P := P) w A xs (fun j v hj => ?_)
  have hlt : j < xs.length := by
    rcases Nat.lt_or_ge j xs.length with h | h
    · exact h
    · simp [List.getElem?_eq_none h] at hj
  obtain ⟨ad, e, hc⟩ := h (by omega)
  injection e with e
  subst e
  exact hc j v hj

/-- string(b) -/
theorem run_string_of (src e dst : TypeId) (hs : P.underlying src = some (.slice e)) (he : P.underlying e = some (.int .u8)) (hd : P.underlying dst = some .string)
    (A : Option Addr) (n c : Nat) (l : List UInt8) (hn : l.length = n) (h : Has w A (vals l)) : (convert src dst (.slice A n c)).run P w = .ok (.string ⟨l.toArray⟩) w := by
  subst hn
  rw [run_convert_bytes_string w src dst e _ _ c hs he hd]
  rcases A with _ | ad
  · have hl : l = [] := by
      cases l with
      | nil => rfl
      | cons a l => exact absurd (h (by simp [vals])) (by simp)
    subst hl
    simp [Conv.bytesToString]
    rfl
  · have h1 := run_load_has (P := P) w ad (vals l) h
    rw [vals_length] at h1
    have h2 : vals l = (l.map fun b => (b.toNat : Int)).map (Value.int .u8) := by simp [vals, Function.comp_def]
    rw [h2] at h1
    rw [run_bytesToString w ad _ c _ h1, foldl_push_bytes]
    simp [ByteArray.empty, ByteArray.emptyWithCapacity, Function.comp_def]
    rfl

theorem run_string_isb (src e dst : TypeId) (hs : P.underlying src = some (.slice e)) (he : P.underlying e = some (.int .u8)) (hd : P.underlying dst = some .string)
    {v : Value} {bs : List UInt8} (h : IsB w v bs) : ∀ k, (convert src dst v).run P (w.drewN k) = .ok (.string ⟨bs.toArray⟩) (w.drewN k) := by
  obtain ⟨A, n, c, rfl, _, _, hn, hA⟩ := h
  exact fun k => run_string_of (w.drewN k) src e dst hs he hd A n c bs hn (hA.drewN k)

theorem run_string_isb0 (src e dst : TypeId) (hs : P.underlying src = some (.slice e)) (he : P.underlying e = some (.int .u8)) (hd : P.underlying dst = some .string)
    {v : Value} {bs : List UInt8} (h : IsB w v bs) : (convert src dst v).run P w = .ok (.string ⟨bs.toArray⟩) w := by
  obtain ⟨A, n, c, rfl, _, _, hn, hA⟩ := h
  exact run_string_of w src e dst hs he hd A n c bs hn hA

theorem run_append_of_nil (base : Nat) (t ty e : TypeId) (i : TypeInfo) (size : Nat) (ht : P.underlying t = some (.slice e)) (hi : P.info? e = some i)
    (v : Value) (n : Nat) (xs : List Value) (hown : w.ownsRow base e size v n xs) (c : Nat) : (Builtin.append_ #[t, t] ty #[v, .slice none 0 c]).run P w = .ok v w := by
  rcases hown.2 with ⟨rfl, rfl⟩ | ⟨g, cap, cur, rfl, _, _, hnc, _⟩
  · simp [Builtin.append_, run_underlying ht, sizeOf, typeInfo, hi, Builtin.lenOf, Builtin.firstCells]
  · simp [Builtin.append_, run_underlying ht, sizeOf, typeInfo, hi, Builtin.lenOf, Builtin.firstCells, hnc, storeCells]

/-- append of one-cell elements onto a row of the call's own, whatever the source. -/
theorem run_append_has (base : Nat) (t ty e : TypeId) (i : TypeInfo) (z : Value) (bytes : Nat) (ht : P.underlying t = some (.slice e)) (hi : P.info? e = some i) (hz : i.zero = some z)
    (hsize : i.size = 1) (hby : i.bytes = bytes) (hzs : z.cells.size = 1)
    (v : Value) (n : Nat) (xs : List Value) (hown : w.ownsRow base e 1 v n xs)
    (A : Option Addr) (m c : Nat) (news : List Value) (hm : news.length = m) (hr : Has w A news) (h1 : ∀ u ∈ news, u.oneCell' = true)
    (h63 : n + m ≤ maxLen) (hbytes : (n + m) * bytes ≤ 140737488355328) (hbase : base ≤ w.heap.size) :
    ∃ v' w', (Builtin.append_ #[t, t] ty #[v, .slice A m c]).run P w = .ok v' w' ∧ w'.ownsRow base e 1 v' (n + m) (xs ++ news) ∧ w.grownBy w' v.ownBlock ∧
      (v'.ownBlock = v.ownBlock ∨ v'.ownBlock = some w.heap.size) := by
  rcases A with _ | ad
  · have hn : news = [] := by
      cases news with
      | nil => rfl
      | cons a l => exact absurd (hr (by simp)) (by simp)
    subst hn
    simp only [List.length_nil] at hm
    subst hm
    exact ⟨v, w, run_append_of_nil w base t ty e i 1 ht hi v n xs hown c, by simpa using hown, World.grownBy.refl w _, .inl rfl⟩
  · have hcells : ∀ j u, news[j]? = some u → w.cell? (ad.add j) = some u := by
      intro j u hu
      have hlt : 0 < news.length := by
        cases news with
        | nil => simp at hu
        | cons a l => simp
      obtain ⟨ad', h, hc⟩ := hr hlt
      injection h with h
      subst h
      exact hc j u hu
    obtain ⟨v', w', hrun, h2, h3, _, h5⟩ := run_append_own_at (P := P) w base t ty e i z 1 bytes ht hi hz hsize hby hzs (by omega) v n xs hown ad m c news (by omega) hcells h1 h63 hbytes hbase
    exact ⟨v', w', hrun, h2, h3, h5⟩

theorem wp_append_has {o : Oper} {a : Act} {K : Act → World → Prop} {Q : Exit → Act → World → Prop} (s x : Operand) (t : TypeId)
    (ho : o.op = .call { callee := .builtin .append, args := #[s, x], argTypes := #[t, t] })
    (base : Nat) (e : TypeId) (i : TypeInfo) (z : Value) (bytes : Nat) (ht : P.underlying t = some (.slice e)) (hi : P.info? e = some i) (hz : i.zero = some z)
    (hsize : i.size = 1) (hby : i.bytes = bytes) (hzs : z.cells.size = 1)
    (v : Value) (n : Nat) (xs : List Value) (hs : a.eval s = v) (hown : w.ownsRow base e 1 v n xs)
    (A : Option Addr) (m c : Nat) (news : List Value) (hx : a.eval x = .slice A m c) (hm : news.length = m) (hr : Has w A news) (h1 : ∀ u ∈ news, u.oneCell' = true)
    (h63 : n + m ≤ maxLen) (hbytes : (n + m) * bytes ≤ 140737488355328) (hbase : base ≤ w.heap.size)
    (h : ∀ v' w', w'.ownsRow base e 1 v' (n + m) (xs ++ news) → w.grownBy w' v.ownBlock → (v'.ownBlock = v.ownBlock ∨ v'.ownBlock = some w.heap.size) → K (a.put o.dst v') w') : o.wp P a w K Q := by
  obtain ⟨v', w', hrun, h2, h3, h4⟩ := run_append_has (P := P) w base t o.type e i z bytes ht hi hz hsize hby hzs v n xs hown A m c news hm hr h1 h63 hbytes hbase
  unfold Oper.wp execOp
  simp only [ho, resolve, invoke, builtin, Sem.run_bind, Sem.run_pure, Result.andThen_ok, List.map_toArray, List.map_cons, List.map_nil, hs, hx, hrun]
  exact h v' w' h2 h3 h4

theorem wpList_append_has {ops : Array Oper} {rest : List Oper} {o : Oper} {a : Act} {Q : Exit → Act → World → Prop} (hgd : o.guard = none) (s x : Operand) (t : TypeId)
    (ho : o.op = .call { callee := .builtin .append, args := #[s, x], argTypes := #[t, t] })
    (base : Nat) (e : TypeId) (i : TypeInfo) (z : Value) (bytes : Nat) (ht : P.underlying t = some (.slice e)) (hi : P.info? e = some i) (hz : i.zero = some z)
    (hsize : i.size = 1) (hby : i.bytes = bytes) (hzs : z.cells.size = 1)
    (v : Value) (n : Nat) (xs : List Value) (hs : a.eval s = v) (hown : w.ownsRow base e 1 v n xs)
    (A : Option Addr) (m c : Nat) (news : List Value) (hx : a.eval x = .slice A m c) (hm : news.length = m) (hr : Has w A news) (h1 : ∀ u ∈ news, u.oneCell' = true)
    (h63 : n + m ≤ maxLen) (hbytes : (n + m) * bytes ≤ 140737488355328) (hbase : base ≤ w.heap.size)
    (h : ∀ v' w', w'.ownsRow base e 1 v' (n + m) (xs ++ news) → w.grownBy w' v.ownBlock → (v'.ownBlock = v.ownBlock ∨ v'.ownBlock = some w.heap.size) → wpList P ops Q rest (a.put o.dst v') w') : wpList P ops Q (o :: rest) a w :=
  wpList_plain hgd fun _ hK => wp_append_has w s x t ho base e i z bytes ht hi hz hsize hby hzs v n xs hs hown A m c news hx hm hr h1 h63 hbytes hbase fun v' w' h2 h3 h4 => hK _ _ (h v' w' h2 h3 h4)
theorem step_append_has {ops : Array Oper} {o : Oper} {a : Act} {K : Act → World → Prop} {Q : Exit → Act → World → Prop} {E : Prop} (hgd : o.guard = none) (s x : Operand) (t : TypeId)
    (ho : o.op = .call { callee := .builtin .append, args := #[s, x], argTypes := #[t, t] })
    (base : Nat) (e : TypeId) (i : TypeInfo) (z : Value) (bytes : Nat) (ht : P.underlying t = some (.slice e)) (hi : P.info? e = some i) (hz : i.zero = some z)
    (hsize : i.size = 1) (hby : i.bytes = bytes) (hzs : z.cells.size = 1)
    (v : Value) (n : Nat) (xs : List Value) (hs : a.eval s = v) (hown : w.ownsRow base e 1 v n xs)
    (A : Option Addr) (m c : Nat) (news : List Value) (hx : a.eval x = .slice A m c) (hm : news.length = m) (hr : Has w A news) (h1 : ∀ u ∈ news, u.oneCell' = true)
    (h63 : n + m ≤ maxLen) (hbytes : (n + m) * bytes ≤ 140737488355328) (hbase : base ≤ w.heap.size)
    (h : ∀ v' w', w'.ownsRow base e 1 v' (n + m) (xs ++ news) → w.grownBy w' v.ownBlock → (v'.ownBlock = v.ownBlock ∨ v'.ownBlock = some w.heap.size) → K (a.put o.dst v') w') :
    if Region.wanted o (yielded ops a.tmps) = true then Oper.wp P o a w K Q else E := by
  have hw : Region.wanted o (yielded ops a.tmps) = true := by simp [Region.wanted, hgd]
  rw [if_pos hw]
  exact wp_append_has w s x t ho base e i z bytes ht hi hz hsize hby hzs v n xs hs hown A m c news hx hm hr h1 h63 hbytes hbase h
end

theorem drewN_below {B : Nat} {a w : World} (h : Below B a w) (n : Nat) : Below B a (w.drewN n) := ⟨h.os, h.tape, h.output, h.size, h.block⟩
theorem own_drewN {w : World} {base : Nat} {e : TypeId} {size : Nat} {v : Value} {n : Nat} {xs : List Value} (h : w.ownsRow base e size v n xs) (k : Nat) : (w.drewN k).ownsRow base e size v n xs := h
/-- Two calls, one behind the other: what was there ahead of both is there. -/
theorem bel_trans {a b c : World} (h : Below a.heap.size a b) (k : Below b.heap.size b c) : Below a.heap.size a c := h.trans (k.mono h.size)
theorem own_bel {w w' : World} {base : Nat} {e : TypeId} {size : Nat} {v : Value} {n : Nat} {xs : List Value} (h : w.ownsRow base e size v n xs) (hb : Below w.heap.size w w') : w'.ownsRow base e size v n xs := by
  refine ⟨h.1, ?_⟩
  rcases h.2 with hn | ⟨g, cap, cur, rfl, hb2, hgg, rest⟩
  · exact .inl hn
  · refine .inr ⟨g, cap, cur, rfl, hb2, ?_, rest⟩
    rw [hb.block g (Array.getElem?_eq_some_iff.1 hgg).1]
    exact hgg
theorem own_base {w : World} {base base' : Nat} {e : TypeId} {size : Nat} {v : Value} {n : Nat} {xs : List Value} (h : w.ownsRow base e size v n xs) (hb : base' ≤ base) : w.ownsRow base' e size v n xs := by
  refine ⟨h.1, ?_⟩
  rcases h.2 with hn | ⟨g, cap, cur, rfl, hb2, r⟩
  · exact .inl hn
  · exact .inr ⟨g, cap, cur, rfl, by omega, r⟩

/-- the model's order of strings -/
theorem bytesLess_lt : ∀ (x y : List UInt8), Op.bytesLess x y = decide (x < y)
  | [], [] => by simp [Op.bytesLess]
  | _ :: _, [] => by simp [Op.bytesLess]
  | [], _ :: _ => by simp [Op.bytesLess]
  | a :: x, b :: y => by
    rw [Op.bytesLess, bytesLess_lt x y, Bool.eq_iff_iff]
    simp [List.cons_lt_cons_iff]

/-! bits of numbers of 64 bits that are not below 0 -/
theorem ofInt_i64 (a : Nat) (ha : a < 9223372036854775808) : (BitVec.ofInt 64 (a : Int)).toNat = a := by
  rw [BitVec.ofInt_natCast, BitVec.toNat_ofNat]; exact Nat.mod_eq_of_lt (by omega)
theorem i64_and_nat (a b : Nat) (ha : a < 9223372036854775808) (hb : b < 9223372036854775808) : bits .and .i64 (a : Int) (b : Int) = ((a &&& b : Nat) : Int) := by
  have hx : a &&& b < 2 ^ 63 := Nat.and_lt_two_pow _ (by omega)
  show IntKind.i64.wrap ((BitVec.ofInt 64 (a : Int) &&& BitVec.ofInt 64 (b : Int)).toNat : Int) = _
  rw [BitVec.toNat_and, ofInt_i64 a ha, ofInt_i64 b hb, IntKind.wrap_i64]
  omega
theorem i64_or_nat (a b : Nat) (ha : a < 9223372036854775808) (hb : b < 9223372036854775808) : bits .or .i64 (a : Int) (b : Int) = ((a ||| b : Nat) : Int) := by
  have hx : a ||| b < 2 ^ 63 := Nat.or_lt_two_pow (by omega) (by omega)
  show IntKind.i64.wrap ((BitVec.ofInt 64 (a : Int) ||| BitVec.ofInt 64 (b : Int)).toNat : Int) = _
  rw [BitVec.toNat_or, ofInt_i64 a ha, ofInt_i64 b hb, IntKind.wrap_i64]
  omega
theorem i64_xor_nat (a b : Nat) (ha : a < 9223372036854775808) (hb : b < 9223372036854775808) : bits .xor .i64 (a : Int) (b : Int) = ((a ^^^ b : Nat) : Int) := by
  have hx : a ^^^ b < 2 ^ 63 := Nat.xor_lt_two_pow (by omega) (by omega)
  show IntKind.i64.wrap ((BitVec.ofInt 64 (a : Int) ^^^ BitVec.ofInt 64 (b : Int)).toNat : Int) = _
  rw [BitVec.toNat_xor, ofInt_i64 a ha, ofInt_i64 b hb, IntKind.wrap_i64]
  omega
end Go.Proofs.YtohggpaffmcfoaaDoor
end
section
namespace Go.Proofs.YtohggpaffmcfoaaDoor
open Go.RowKit
theorem byte_info : (Tryd.prog.info? 5).map (fun i => (i.zero, i.size, i.bytes)) = some (some (.int .u8 0), 1, 1) := by kernel_rfl
end Go.Proofs.YtohggpaffmcfoaaDoor
end
section
namespace Go.Proofs.YtohggpaffmcfoaaDoor
open Go.ChangeShapes Go.WideShapes Go.ChangeAt Go.RowKit
set_option linter.unusedVariables false
set_option maxRecDepth 100000
set_option linter.unusedSimpArgs false

/-- bytes that came in -/
structure InB (w : World) (a : Option Addr) (n c : Nat) (l : List UInt8) : Prop where
  len : l.length = n
  cap : n ≤ c
  max : c ≤ maxLen
  has : Has w a (vals l)
/-- numbers that came in -/
structure InI (k : IntKind) (w : World) (a : Option Addr) (n c : Nat) (l : List Int) : Prop where
  len : l.length = n
  cap : n ≤ c
  max : c ≤ maxLen
  has : Has w a (l.map (Value.int k))
  wf : ∀ x ∈ l, (Lit.int k x).wf = true

theorem InI.of_trod {H : Type} {enc : TypeId × Value → H} {P : Program} {w : World} {base : Nat} {sp : Nat → Bool} {hd : Bool} {t e : TypeId} {k : IntKind} {a : Option Addr} {n c : Nat} {d : DataW H} {p : List MemPlace}
    (ht : P.underlying t = some (.slice e)) (he : P.underlying e = some (.int k)) (hc : P.cellsOf e = 1) (h : DataW.Trod enc P w base sp hd t (.slice a n c) d p) : ∃ l, InI k w a n c l := by
  obtain ⟨fuel, hf⟩ := h
  rcases open_ints ht he hc hf with ⟨hcs, _⟩ | ⟨x, l, c', zs, hcs, _, hl, hm, hz, _, hcell, hwz⟩
  · simp [Value.cells] at hcs
    obtain ⟨rfl, rfl, rfl⟩ := hcs
    exact ⟨[], rfl, Nat.le_refl _, Nat.zero_le _, Has.nil_ _ _, by simp⟩
  · simp [Value.cells] at hcs
    obtain ⟨rfl, rfl, rfl⟩ := hcs
    refine ⟨zs.take n, by rw [List.length_take, hz]; split <;> omega, hl, hm, fun _ => ⟨x, rfl, fun j u hu => ?_⟩, fun y hy => hwz y (List.mem_of_mem_take hy)⟩
    rw [List.getElem?_map, List.getElem?_take] at hu
    split at hu
    · have hjl : j < zs.length := by
        rcases Nat.lt_or_ge j zs.length with h1 | h1
        · exact h1
        · rw [List.getElem?_eq_none h1] at hu; cases hu
      rw [List.getElem?_eq_getElem hjl] at hu
      injection hu with hu
      rw [hcell j hjl, ← hu, List.getD_eq_getElem?_getD, List.getElem?_eq_getElem hjl]
      rfl
    · cases hu
theorem InB.of_trod {H : Type} {enc : TypeId × Value → H} {P : Program} {w : World} {base : Nat} {sp : Nat → Bool} {hd : Bool} {t e : TypeId} {a : Option Addr} {n c : Nat} {d : DataW H} {p : List MemPlace}
    (ht : P.underlying t = some (.slice e)) (he : P.underlying e = some (.int .u8)) (hc : P.cellsOf e = 1) (h : DataW.Trod enc P w base sp hd t (.slice a n c) d p) : ∃ l, InB w a n c l := by
  obtain ⟨l, hl⟩ := InI.of_trod ht he hc h
  refine ⟨l.map fun n => UInt8.ofNat n.toNat, by simpa using hl.len, hl.cap, hl.max, ?_⟩
  have e1 : vals (l.map fun n => UInt8.ofNat n.toNat) = l.map (Value.int .u8) := by
    simp only [vals, List.map_map]
    refine List.map_congr_left fun x hx => ?_
    have hw := hl.wf x hx
    simp only [Lit.wf, IntKind.min, IntKind.max, IntKind.signed, IntKind.bits, Bool.and_eq_true, decide_eq_true_eq] at hw
    simp at hw
    simp only [Function.comp, Value.int.injEq, true_and, UInt8.toNat_ofNat']
    omega
  rw [e1]
  exact hl.has
/-- an array of numbers by value -/
theorem arr_of_trod {H : Type} {enc : TypeId × Value → H} {P : Program} {w : World} {r : Reach} {b0 base : Nat} {sp : Nat → Bool} {hd : Bool} {t e : TypeId} {k : IntKind} {n : Nat} {v : Value} {d : DataW H} {p : List MemPlace}
    (ht : P.underlying t = some (.array n e)) (he : P.underlying e = some (.int k)) (hc : P.cellsOf e = 1) (hC : P.cellsOf t = n) (hv : Value.okWide P w r b0 t v) (h : DataW.Trod enc P w base sp hd t v d p) :
    ∃ l : List Int, v = .agg (l.map (Value.int k)).toArray ∧ l.length = n ∧ ∀ x ∈ l, (Lit.int k x).wf = true := by
  have hv2 := hv
  simp only [Value.okWide, ht] at hv2
  obtain ⟨cs, rfl, hsz, _⟩ := hv2
  obtain ⟨fuel, hf⟩ := h
  obtain ⟨xs, m, _, _, hlen, hxl, hi⟩ := DataW.trod_array ht hf
  rw [hc] at hi
  rw [hC] at hlen
  simp only [Value.cells] at hlen hi
  have hall : ∀ i, (hi' : i < cs.toList.length) → ∃ x : Int, cs.toList[i] = .int k x ∧ (Lit.int k x).wf = true := by
    intro i hi'
    have h1 := hi i (by omega)
    rw [Nat.mul_one] at h1
    have h2 : (cs.toList.drop i).take 1 = [cs.toList[i]] := by
      rw [List.drop_eq_getElem_cons hi']
      rfl
    rw [h2, List.getElem?_eq_getElem (by omega)] at h1
    obtain ⟨x, hx, _, hw⟩ := DataW.trod_int he h1
    simp at hx
    exact ⟨x, hx, hw⟩
  have hex : ∃ l : List Int, cs.toList = l.map (Value.int k) ∧ ∀ x ∈ l, (Lit.int k x).wf = true := by
    clear hi hlen hsz hf hv hxl
    generalize cs.toList = zs at hall
    induction zs with
    | nil => exact ⟨[], rfl, by simp⟩
    | cons z zs ih =>
      obtain ⟨x, hx, hw⟩ := hall 0 (by simp)
      obtain ⟨l, hl, hlw⟩ := ih (fun i hi' => by
        have h3 := hall (i + 1) (by simpa using hi')
        simpa only [List.getElem_cons_succ] using h3)
      simp at hx
      refine ⟨x :: l, by simp [hx, hl], fun y hy => ?_⟩
      rcases List.mem_cons.1 hy with rfl | hy
      · exact hw
      · exact hlw y hy
  obtain ⟨l, hl, hw⟩ := hex
  refine ⟨l, ?_, ?_, hw⟩
  · rw [← hl]
  · rw [hl, List.length_map] at hlen
    exact hlen
end Go.Proofs.YtohggpaffmcfoaaDoor
end
