/- Two rules held against each other by '==' and '!='. -/
import Derived.Test.YtohggpaffmcfoaaDoorTblKit
import Derived.Laws.StructEq
namespace Go.Proofs.YtohggpaffmcfoaaDoor
open Go.RowKit
set_option linter.unusedVariables false
set_option maxRecDepth 100000
set_option linter.unusedSimpArgs false

/-- the same rule -/
def sameB (r s : Rl) : Bool := ((r.at_ : Int) == (s.at_ : Int)) && (r.len == s.len) && (r.act == s.act) && (r.nxt == s.nxt)
theorem sameB_iff (r s : Rl) : sameB r s = true ↔ r = s := by
  unfold sameB
  simp only [Bool.and_eq_true, beq_iff_eq]
  constructor
  · rintro ⟨⟨⟨h1, h2⟩, h3⟩, h4⟩
    exact Rl.same (by omega) h2 h3 h4
  · rintro rfl
    exact ⟨⟨⟨rfl, rfl⟩, rfl⟩, rfl⟩
theorem rule_fields : ∃ f0 f1 f2 f3 : Field, (Tryd.prog.fieldsOf 47).toList = [f0, f1, f2, f3] ∧ Tryd.prog.underlying 47 = some (.struct (Tryd.prog.fieldsOf 47)) ∧ (f0.type = 36 ∧ f0.offset = 0 ∧ f0.name ≠ "_") ∧ (f1.type = 3 ∧ f1.offset = 1 ∧ f1.name ≠ "_") ∧ (f2.type = 3 ∧ f2.offset = 2 ∧ f2.name ≠ "_") ∧ (f3.type = 3 ∧ f3.offset = 3 ∧ f3.name ≠ "_") := by
  have hu := Tryd.underlying47
  simp only [Program.fieldsOf, hu]
  exact ⟨_, _, _, _, rfl, trivial, ⟨rfl, rfl, by decide⟩, ⟨rfl, rfl, by decide⟩, ⟨rfl, rfl, by decide⟩, ⟨rfl, rfl, by decide⟩⟩
theorem run_same_rule (w : World) (r s : Rl) : (Op.equalIn 10000 47 (.agg #[.int .u32 (r.at_ : Int), .int .i64 r.len, .int .i64 r.act, .int .i64 r.nxt]) (.agg #[.int .u32 (s.at_ : Int), .int .i64 s.len, .int .i64 s.act, .int .i64 s.nxt])).run Tryd.prog w = .ok (sameB r s) w := by
  obtain ⟨f0, f1, f2, f3, hf, hu, ⟨a1, a2, a3⟩, ⟨b1, b2, b3⟩, ⟨c1, c2, c3⟩, ⟨d1, d2, d3⟩⟩ := rule_fields
  rw [run_equalIn_agg w 9999 47 _ _ hu (by kernel_rfl), hf]
  simp only [Op.eqFields, a1, a2, a3, b1, b2, b3, c1, c2, c3, d1, d2, d3, ne_eq, not_false_eq_true, if_true]
  have p0 : ∀ (v : Value) (cs : Array Value), cs[0]? = some v → (part 36 cs 0).run Tryd.prog w = .ok v w := fun v cs h => by
    simp [part, go_sem, Tryd.underlying36, h]
  have p1 : ∀ (k : Nat) (v : Value) (cs : Array Value), cs[k]? = some v → (part 3 cs k).run Tryd.prog w = .ok v w := fun k v cs h => by
    simp [part, go_sem, Tryd.underlying3, h]
  have e0 : ∀ a b : Int, (Op.equalIn 9999 36 (.int .u32 a) (.int .u32 b)).run Tryd.prog w = .ok (a == b) w := fun a b => run_equalIn_int (P := Tryd.prog) w 9998 36 .u32 .u32 a b Tryd.underlying36
  have e1 : ∀ a b : Int, (Op.equalIn 9999 3 (.int .i64 a) (.int .i64 b)).run Tryd.prog w = .ok (a == b) w := fun a b => run_equalIn_int (P := Tryd.prog) w 9998 3 .i64 .i64 a b Tryd.underlying3
  unfold sameB
  rw [Sem.run_bind, p0 (.int .u32 (r.at_ : Int)) _ rfl, Result.andThen_ok, Sem.run_bind, p0 (.int .u32 (s.at_ : Int)) _ rfl, Result.andThen_ok, Sem.run_bind, e0, Result.andThen_ok]
  cases h0 : ((r.at_ : Int) == (s.at_ : Int)) with
  | false => rfl
  | true =>
    simp only [Bool.not_true, Bool.false_eq_true, if_false]
    rw [Sem.run_bind, p1 1 (.int .i64 r.len) _ rfl, Result.andThen_ok, Sem.run_bind, p1 1 (.int .i64 s.len) _ rfl, Result.andThen_ok, Sem.run_bind, e1, Result.andThen_ok]
    cases h1 : (r.len == s.len) with
    | false => rfl
    | true =>
      simp only [Bool.not_true, Bool.false_eq_true, if_false]
      rw [Sem.run_bind, p1 2 (.int .i64 r.act) _ rfl, Result.andThen_ok, Sem.run_bind, p1 2 (.int .i64 s.act) _ rfl, Result.andThen_ok, Sem.run_bind, e1, Result.andThen_ok]
      cases h2 : (r.act == s.act) with
      | false => rfl
      | true =>
        simp only [Bool.not_true, Bool.false_eq_true, if_false]
        rw [Sem.run_bind, p1 3 (.int .i64 r.nxt) _ rfl, Result.andThen_ok, Sem.run_bind, p1 3 (.int .i64 s.nxt) _ rfl, Result.andThen_ok, Sem.run_bind, e1, Result.andThen_ok]
        cases h3 : (r.nxt == s.nxt) with
        | false => rfl
        | true => rfl
theorem run_neq_rule (w : World) (r s : Rl) : (binOp .neq 47 (.agg #[.int .u32 (r.at_ : Int), .int .i64 r.len, .int .i64 r.act, .int .i64 r.nxt]) (.agg #[.int .u32 (s.at_ : Int), .int .i64 s.len, .int .i64 s.act, .int .i64 s.nxt])).run Tryd.prog w = .ok (.bool (!(sameB r s))) w := by
  rw [run_neq_struct, run_same_rule]
  rfl
theorem rule_guard : Tryd.prog.eqGuardType Tryd.prog.depth 47 = false := by kernel_rfl
end Go.Proofs.YtohggpaffmcfoaaDoor
