/- Plain mathematics of layer 8's laws: what a rule more, or less, changes; twice, turned. No program. -/
import Derived.Test.YtenkpoppbjgclaaTblMath
namespace Go.Proofs.Ytenkpoppbjgclaa
set_option linter.unusedVariables false
set_option linter.unusedSimpArgs false

/-! a rule more -/
theorem ins_mem_iff {l : List Rl} {r : Rl} (h : ∀ x ∈ l, cmpR x r ≠ 0) (x : Rl) : x ∈ ins l r ↔ x ∈ l ∨ x = r := by
  constructor
  · exact ins_mem
  · rintro (h1 | rfl)
    · exact ins_old h1
    · exact (ins_new h).2
theorem adds_same {l : List Rl} {r : Rl} {m : Int} (h : Tbl l m) (hl : (ins l r).length = l.length) : ins l r = l := by
  by_cases hx : ∃ x ∈ l, cmpR x r = 0
  · obtain ⟨x, hx, hc⟩ := hx
    exact ins_there h.ord hx hc
  · have := (ins_new (l := l) (r := r) (fun x hx' hc => hx ⟨x, hx', hc⟩)).1
    omega
theorem adds_unlike {l : List Rl} {r : Rl} {m : Int} (h : Tbl l m) (hl : (ins l r).length ≠ l.length) : ∀ x ∈ l, cmpR x r ≠ 0 := fun x hx hc => hl (by rw [ins_there h.ord hx hc])
/-- it is found where it holds, and no longer one does -/
theorem adds_found {l : List Rl} {r : Rl} {m : Int} {a : Nat} (h : Tbl l m) (hr : mayRl r m = 0) (hl : (ins l r).length ≠ l.length) (hh : holdR r a = true) (hs : ∀ s, findF l a = some s → s.len < r.len) : findF (ins l r) a = some r := by
  have hu := adds_unlike h hl
  refine find_is (ins_tbl h hr) ((ins_mem_iff hu r).2 (.inr rfl)) hh fun x hx hx2 => ?_
  rcases ins_mem hx with hx | rfl
  · cases e : findF l a with
    | none =>
      have := find_none.1 e x hx
      rw [this] at hx2
      cases hx2
    | some s =>
      have h1 := (find_some e).2.2 x hx hx2
      have h2 := hs s e
      omega
  · exact Int.le_refl _
/-- elsewhere all is found as it was -/
theorem adds_else {l : List Rl} {r : Rl} {m : Int} {a : Nat} (h : Tbl l m) (hr : mayRl r m = 0) (hl : (ins l r).length ≠ l.length) (hn : holdR r a = true → ∃ s, findF l a = some s ∧ r.len ≤ s.len) : findF (ins l r) a = findF l a := by
  have hu := adds_unlike h hl
  by_cases hh : holdR r a = true
  · obtain ⟨s, e, hle⟩ := hn hh
    obtain ⟨s1, s2, s3⟩ := find_some e
    rw [e]
    refine find_is (ins_tbl h hr) (ins_old s1) s2 fun x hx hx2 => ?_
    rcases ins_mem hx with hx | rfl
    · exact s3 x hx hx2
    · exact hle
  · refine find_same (ins_tbl h hr) h a fun x hx => ?_
    rw [ins_mem_iff hu]
    constructor
    · rintro (h1 | rfl)
      · exact h1
      · exact absurd hx hh
    · exact .inl

/-! a rule less -/
def without (l : List Rl) (k : Nat) : List Rl := l.take k ++ l.drop (k + 1)
theorem without_mem {l : List Rl} {m : Int} (h : Tbl l m) (k : Nat) (hk : k < l.length) (x : Rl) : x ∈ without l k ↔ x ∈ l ∧ cmpR x l[k] ≠ 0 := by
  have e : l = l.take k ++ l[k] :: l.drop (k + 1) := by rw [← List.drop_eq_getElem_cons hk, List.take_append_drop]
  have ho := h.ord
  unfold Ord at ho
  rw [e, List.pairwise_append, List.pairwise_cons] at ho
  obtain ⟨_, ⟨h2, _⟩, h3⟩ := ho
  unfold without
  constructor
  · intro hx
    rcases List.mem_append.1 hx with hx | hx
    · exact ⟨List.mem_of_mem_take hx, (ltR_ne (h3 x hx l[k] List.mem_cons_self)).1⟩
    · exact ⟨List.mem_of_mem_drop hx, (ltR_ne (h2 x hx)).2⟩
  · rintro ⟨hx, hc⟩
    rw [e] at hx
    rcases List.mem_append.1 hx with hx | hx
    · exact List.mem_append_left _ hx
    · rcases List.mem_cons.1 hx with rfl | hx
      · exact absurd (cmpR_self _) hc
      · exact List.mem_append_right _ hx
theorem without_tbl {l : List Rl} {m : Int} (h : Tbl l m) (k : Nat) : Tbl (without l k) m := by
  have hs : (without l k).Sublist l := by
    unfold without
    have := List.Sublist.append (List.Sublist.refl (l.take k)) (List.drop_sublist 1 (l.drop k))
    rw [List.take_append_drop, List.drop_drop] at this
    exact this
  exact ⟨fun r hr => h.ok r (hs.subset hr), List.Pairwise.sublist hs h.ord⟩
/-- what it was found for finds a shorter one, or none -/
theorem less_found {l : List Rl} {m : Int} {a k : Nat} (h : Tbl l m) (hk : k < l.length) (e : findF l a = some l[k]) : ∀ s, findF (without l k) a = some s → s.len < l[k].len := fun s hs => by
  obtain ⟨s1, s2, _⟩ := find_some hs
  obtain ⟨k1, k2, k3⟩ := find_some e
  obtain ⟨m1, m2⟩ := (without_mem h k hk s).1 s1
  have h1 := k3 s m1 s2
  rcases Int.lt_or_eq_of_le h1 with g | g
  · exact g
  · have := tbl_one h m1 k1 s2 k2 g
    rw [this] at m2
    exact absurd (cmpR_self _) m2
/-- all else is found as it was -/
theorem less_else {l : List Rl} {m : Int} {a k : Nat} (h : Tbl l m) (hk : k < l.length) (e : findF l a ≠ some l[k]) : findF (without l k) a = findF l a := by
  cases e2 : findF l a with
  | none =>
    rw [find_none] at e2 ⊢
    exact fun r hr => e2 r ((without_mem h k hk r).1 hr).1
  | some s =>
    obtain ⟨s1, s2, s3⟩ := find_some e2
    refine find_is (without_tbl h k) ((without_mem h k hk s).2 ⟨s1, fun hc => ?_⟩) s2 fun r hr => s3 r ((without_mem h k hk r).1 hr).1
    rcases ord_two h.ord s1 (List.getElem_mem hk) with g | g | g
    · rw [g] at e2
      exact e e2
    · exact (ltR_ne g).1 hc
    · exact (ltR_ne g).2 hc

/-! the one that holds all -/
def allR : Rl := ⟨0, 0, 1, 8⟩
theorem all_ok : mayRl allR 9 = 0 := by decide
theorem all_holds {a : Nat} (ha : a < 4294967296) : holdR allR a = true := by
  unfold holdR holdB
  rw [decide_eq_true_iff]
  show loN 0 (cl 0) = loN a (cl 0)
  rw [show cl 0 = 0 from rfl, lo_zero 0 (by omega), lo_zero a ha]
theorem all_least {r : Rl} {m : Int} (h : mayRl r m = 0) (hn : ¬ (r.at_ = 0 ∧ r.len = 0)) : ltR allR r := by
  obtain ⟨h1, _, _⟩ := ok_len h
  unfold ltR
  rw [cmpR_lt]
  show 0 < r.at_ ∨ (0 = r.at_ ∧ 0 < r.len)
  omega
/-- the table with it at its head, in the place of one of no bit -/
def withAll (l : List Rl) : List Rl := match l with
  | [] => [allR]
  | r :: t => if r.at_ = 0 ∧ r.len = 0 then allR :: t else allR :: r :: t
theorem withAll_cons (r : Rl) (t : List Rl) : withAll (r :: t) = if r.at_ = 0 ∧ r.len = 0 then allR :: t else allR :: r :: t := rfl
theorem withAll_tbl {l : List Rl} (h : Tbl l 9) : Tbl (withAll l) 9 := by
  obtain ⟨h1, h2⟩ := h
  have key : ∀ t : List Rl, (∀ x ∈ t, mayRl x 9 = 0 ∧ ¬ (x.at_ = 0 ∧ x.len = 0)) → Ord t → Tbl (allR :: t) 9 := fun t ht ho => by
    refine ⟨fun x hx => ?_, ?_⟩
    · rcases List.mem_cons.1 hx with rfl | hx
      · exact all_ok
      · exact (ht x hx).1
    · unfold Ord
      rw [List.pairwise_cons]
      exact ⟨fun x hx => all_least (ht x hx).1 (ht x hx).2, ho⟩
  cases l with
  | nil => exact key [] (by simp) List.Pairwise.nil
  | cons r t =>
    have h3 := h2
    unfold Ord at h3
    rw [List.pairwise_cons] at h3
    have hge : ∀ x ∈ t, ¬ (x.at_ = 0 ∧ x.len = 0) := fun x hx => by
      have g := h3.1 x hx
      have g2 := ok_len (h1 r (by simp))
      unfold ltR at g
      rw [cmpR_lt] at g
      omega
    rw [withAll_cons]
    split
    · exact key t (fun x hx => ⟨h1 x (List.mem_cons_of_mem _ hx), hge x hx⟩) h3.2
    · rename_i hz
      refine key (r :: t) (fun x hx => ?_) h2
      rcases List.mem_cons.1 hx with rfl | hx
      · exact ⟨h1 _ (by simp), hz⟩
      · exact ⟨h1 x (List.mem_cons_of_mem _ hx), hge x hx⟩
theorem withAll_mem {l : List Rl} (h : Tbl l 9) (x : Rl) (hx : ¬ (x.at_ = 0 ∧ x.len = 0)) : x ∈ withAll l ↔ x ∈ l := by
  cases l with
  | nil =>
    constructor
    · intro h1
      simp [withAll] at h1
      subst h1
      exact absurd ⟨rfl, rfl⟩ hx
    · intro h1; cases h1
  | cons r t =>
    rw [withAll_cons]
    split
    · rename_i hz
      constructor
      · intro h1
        rcases List.mem_cons.1 h1 with rfl | h1
        · exact absurd ⟨rfl, rfl⟩ hx
        · exact List.mem_cons_of_mem _ h1
      · intro h1
        rcases List.mem_cons.1 h1 with rfl | h1
        · exact absurd hz hx
        · exact List.mem_cons_of_mem _ h1
    · constructor
      · intro h1
        rcases List.mem_cons.1 h1 with rfl | h1
        · exact absurd ⟨rfl, rfl⟩ hx
        · exact h1
      · exact List.mem_cons_of_mem _
theorem withAll_all (l : List Rl) : allR ∈ withAll l := by
  cases l with
  | nil => simp [withAll]
  | cons r t => rw [withAll_cons]; split <;> simp
/-- a rule of no bit has address 0 -/
theorem len_zero {r : Rl} {m : Int} {a : Nat} (h : mayRl r m = 0) (hh : holdR r a = true) (ha : a < 4294967296) (hl : r.len = 0) : r.at_ = 0 := by
  rw [hold_at h hh, hl, show cl 0 = 0 from rfl, lo_zero a ha]
theorem alone_plain {l : List Rl} {a : Nat} (h : Tbl l 9) (ha : a < 4294967296) (hp : ∀ s, findF l a = some s → s.len = 0) : findF (withAll l) a = some allR := by
  refine find_is (withAll_tbl h) (withAll_all l) (all_holds ha) fun x hx hh => ?_
  have hok := (withAll_tbl h).ok x hx
  by_cases hz : x.at_ = 0 ∧ x.len = 0
  · show x.len ≤ 0; omega
  · have hxl := (withAll_mem h x hz).1 hx
    cases e : findF l a with
    | none =>
      have := find_none.1 e x hxl
      rw [this] at hh
      cases hh
    | some s =>
      have h1 := (find_some e).2.2 x hxl hh
      have h2 := hp s e
      show x.len ≤ 0
      omega
theorem alone_found {l : List Rl} {a : Nat} (h : Tbl l 9) (ha : a < 4294967296) {s : Rl} (e : findF l a = some s) (hs : s.len ≠ 0) : findF (withAll l) a = some s := by
  obtain ⟨s1, s2, s3⟩ := find_some e
  have hz : ¬ (s.at_ = 0 ∧ s.len = 0) := fun g => hs g.2
  refine find_is (withAll_tbl h) ((withAll_mem h s hz).2 s1) s2 fun x hx hh => ?_
  by_cases hxz : x.at_ = 0 ∧ x.len = 0
  · have := (ok_len (h.ok s s1)).1
    omega
  · exact s3 x ((withAll_mem h x hxz).1 hx) hh

/-! twice, turned -/
theorem tbl_take {l : List Rl} {m : Int} (h : Tbl l m) (k : Nat) : Tbl (l.take k) m := ⟨fun r hr => h.ok r (List.mem_of_mem_take hr), List.Pairwise.sublist (List.take_sublist k l) h.ord⟩
theorem may_take {l : List Rl} {m : Int} (h : Tbl l m) (k : Nat) : mayT (l.take k) m = 0 := mayT_ok.2 ⟨(tbl_take h k).ok, (tbl_take h k).ord⟩
theorem ord_next {l : List Rl} (h : Ord l) (k : Nat) (hk : k + 1 < l.length) : ltR l[k] l[k + 1] := by
  unfold Ord at h
  rw [List.pairwise_iff_getElem] at h
  exact h k (k + 1) (by omega) hk (by omega)
/-- behind what may be a rule that is not above the last one -/
theorem may_stop {x y : List Rl} {r q : Rl} {m : Int} (hx : mayT x m = 0) (hl : x.getLast? = some q) (hr : mayRl r m = 0) (hc : cmpR r q ≠ 1) : mayT (x ++ r :: y) m = 11 := by
  unfold mayT at hx ⊢
  rw [mayGo_app m _ x none hx, hl]
  show mayGo (some q) (r :: y) m = 11
  rw [mayGo_cons, if_neg (by simpa using hr)]
  simp only
  rw [if_pos hc]
theorem may_twice {l : List Rl} {m : Int} (h : Tbl l m) (k : Nat) (hk : k < l.length) : mayT (l.take (k + 1) ++ l[k] :: l.drop (k + 1)) m = 11 := by
  refine may_stop (may_take h (k + 1)) (q := l[k]) ?_ (h.ok _ (List.getElem_mem hk)) ?_
  · rw [List.take_succ_eq_append_getElem hk, List.getLast?_concat]
  · rw [cmpR_self]; decide
theorem may_turned {l : List Rl} {m : Int} (h : Tbl l m) (k : Nat) (hk : k + 1 < l.length) : mayT (l.take k ++ l[k + 1] :: l[k] :: l.drop (k + 2)) m = 11 := by
  have hlt := ord_next h.ord k hk
  have hx : mayT (l.take k ++ [l[k + 1]]) m = 0 := by
    rw [mayT_ok]
    refine ⟨fun r hr => ?_, ?_⟩
    · rcases List.mem_append.1 hr with hr | hr
      · exact h.ok r (List.mem_of_mem_take hr)
      · rw [List.mem_singleton.1 hr]
        exact h.ok _ (List.getElem_mem hk)
    · unfold Ord
      rw [List.pairwise_append]
      refine ⟨(tbl_take h k).ord, by simp, fun x hx y hy => ?_⟩
      rw [List.mem_singleton.1 hy]
      have e : l.take (k + 1) = l.take k ++ [l[k]] := List.take_succ_eq_append_getElem (by omega)
      have ho := (tbl_take h (k + 1)).ord
      unfold Ord at ho
      rw [e, List.pairwise_append] at ho
      exact ltR_trans (ho.2.2 x hx l[k] (by simp)) hlt
  have e2 : l.take k ++ l[k + 1] :: l[k] :: l.drop (k + 2) = (l.take k ++ [l[k + 1]]) ++ l[k] :: l.drop (k + 2) := by simp
  rw [e2]
  refine may_stop hx (q := l[k + 1]) (by rw [List.getLast?_concat]) (h.ok _ (List.getElem_mem (by omega))) ?_
  unfold ltR at hlt
  rw [hlt]
  decide
/-- with fewer nodes -/
theorem may_fewer {l : List Rl} {m m' : Int} (h : Tbl l m) (hx : ∃ r ∈ l, r.act = 1 ∧ m' ≤ r.nxt) : mayT l m' = 10 := mayGo_fewer m m' l none (mayT_ok.2 ⟨h.ok, h.ord⟩) hx

/-! hosts -/
def hostR (a : Nat) : Rl := ⟨a, 32, 2, 0⟩
def rest (l : List Rl) (a : Nat) : List Rl := l.filter fun r => decide (¬ (r.at_ = a ∧ r.len = 32))
theorem host_ok (a : Nat) : mayRl (hostR a) 9 = 0 := mayRl_ok.2 ⟨mayI_ok.2 ⟨by show (0 : Int) ≤ 32; omega, by show (32 : Int) ≤ 32; omega, by show loN a (cl 32) = a; rw [show cl 32 = 32 from rfl, lo_full]⟩, .inr ⟨.inl rfl, rfl⟩⟩
theorem host_holds (a b : Nat) : holdR (hostR a) b = true ↔ a = b := by
  unfold holdR holdB
  rw [decide_eq_true_iff]
  show loN a (cl 32) = loN b (cl 32) ↔ _
  rw [show cl 32 = 32 from rfl, lo_full, lo_full]
theorem rest_tbl {l : List Rl} {m : Int} (h : Tbl l m) (a : Nat) : Tbl (rest l a) m := ⟨fun r hr => h.ok r (List.mem_filter.1 hr).1, List.Pairwise.filter _ h.ord⟩
theorem rest_le (l : List Rl) (a : Nat) : (rest l a).length ≤ l.length := List.length_filter_le _ _
theorem hosts_mem {l : List Rl} (h : Tbl l 9) (hl : l.length ≤ 19) (a : Nat) (x : Rl) : x ∈ fitT 9 (hostR a :: rest l a) ↔ x = hostR a ∨ x ∈ rest l a := by
  have hr := rest_tbl h a
  have hle := rest_le l a
  unfold fitT
  rw [List.take_of_length_le (by simp; omega)]
  have e : (hostR a :: rest l a).map (fitRl 9) = hostR a :: rest l a := by
    have : ∀ r ∈ hostR a :: rest l a, fitRl 9 r = r := fun r hx => by
      rcases List.mem_cons.1 hx with rfl | hx
      · exact fitRl_id (host_ok a)
      · exact fitRl_id (hr.ok r hx)
    rw [List.map_congr_left this, List.map_id']
  rw [e, insAll_mem (by simp)]
  · simp
  · rw [List.pairwise_cons]
    refine ⟨fun y hy hc => ?_, hr.ord.imp fun g => (ltR_ne g).1⟩
    have h2 := (List.mem_filter.1 hy).2
    rw [cmpR_eq] at hc
    simp only [decide_eq_true_eq] at h2
    exact h2 ⟨hc.1.symm, hc.2.symm⟩
theorem hosts_tbl {l : List Rl} (a : Nat) : Tbl (fitT 9 (hostR a :: rest l a)) 9 := fitT_tbl 9 _ (by omega)
theorem hosts_found {l : List Rl} (h : Tbl l 9) (hl : l.length ≤ 19) (a : Nat) : findF (fitT 9 (hostR a :: rest l a)) a = some (hostR a) := by
  refine find_is (hosts_tbl a) ((hosts_mem h hl a _).2 (.inl rfl)) ((host_holds a a).2 rfl) fun x hx hh => ?_
  have := (ok_len ((hosts_tbl (l := l) a).ok x hx)).2.1
  exact this
theorem hosts_else {l : List Rl} (h : Tbl l 9) (hl : l.length ≤ 19) (a b : Nat) (hab : a ≠ b) : findF (fitT 9 (hostR a :: rest l a)) b = findF (rest l a) b :=
  find_same (hosts_tbl a) (rest_tbl h a) b fun x hx => by
    rw [hosts_mem h hl]
    constructor
    · rintro (rfl | h1)
      · exact absurd ((host_holds a b).1 hx) hab
      · exact h1
    · exact .inr
end Go.Proofs.Ytenkpoppbjgclaa
