/- AVL trees: what pairs they have behind an insertion, and behind a deletion. No program is named here. -/
import Derived.Test.YtpjojhmdgeejmaaAvlMath
namespace Go.Proofs.Ytpjojhmdgeejmaa
set_option linter.unusedVariables false

abbrev KV := List Int × List Int
/-- The keys rise. -/
def Rise (l : List KV) : Prop := l.Pairwise fun p q => ltL p.1 q.1 = true
theorem Rise.app {a b : List KV} {k v : List Int} (h : Rise (a ++ ((k, v) :: b))) : Rise a ∧ Rise b ∧ (∀ p ∈ a, ltL p.1 k = true) ∧ (∀ p ∈ b, ltL k p.1 = true) := by
  unfold Rise at h
  rw [List.pairwise_append, List.pairwise_cons] at h
  exact ⟨h.1, h.2.1.2, fun p hp => h.2.2 p hp (k, v) (by simp), fun p hp => h.2.1.1 p hp⟩
theorem filter_all {l : List KV} {p : KV → Bool} (h : ∀ x ∈ l, p x = true) : l.filter p = l := List.filter_eq_self.2 h
theorem filter_no {l : List KV} {p : KV → Bool} (h : ∀ x ∈ l, p x = false) : l.filter p = [] := List.filter_eq_nil_iff.2 fun x hx => by rw [h x hx]; simp
/-- The pairs behind an insertion. -/
theorem AT.put_pairs (key val : List Int) : ∀ a : AT, Rise a.pairs → (a.put key val).pairs = a.pairs.filter (fun p => ltL p.1 key) ++ ((key, val) :: a.pairs.filter (fun p => ltL key p.1)) := by
  intro a
  induction a with
  | nil => intro _; rfl
  | node l k v r ihl ihr =>
    intro h
    rw [AT.pairs] at h
    obtain ⟨hl, hr, hlk, hrk⟩ := h.app
    rw [AT.put_node]
    rw [AT.pairs, List.filter_append, List.filter_append, List.filter_cons, List.filter_cons]
    by_cases c : key = k
    · subst c
      rw [if_pos rfl, AT.pairs, ltL_irr]
      rw [filter_all hlk, filter_no (p := fun p => ltL p.1 key) (fun x hx => ltL_asymm (hrk x hx)), filter_no (p := fun p => ltL key p.1) (fun x hx => ltL_asymm (hlk x hx)), filter_all hrk]
      simp
    · rw [if_neg c]
      by_cases c2 : ltL key k = true
      · rw [if_pos c2, AT.level_pairs, AT.pairs, ihl hl]
        simp only [c2, ltL_asymm c2]
        rw [filter_no (l := r.pairs) (p := fun p => ltL p.1 key) (fun x hx => ltL_asymm (ltL_trans c2 (hrk x hx))), filter_all (l := r.pairs) (p := fun p => ltL key p.1) (fun x hx => ltL_trans c2 (hrk x hx))]
        simp
      · have c3 : ltL k key = true := by
          rcases ltL_three key k with q | q | q
          · exact absurd q c2
          · exact absurd q c
          · exact q
        rw [if_neg c2, AT.level_pairs, AT.pairs, ihr hr]
        simp only [c3, ltL_asymm c3]
        rw [filter_all (l := l.pairs) (p := fun p => ltL p.1 key) (fun x hx => ltL_trans (hlk x hx) c3), filter_no (l := l.pairs) (p := fun p => ltL key p.1) (fun x hx => ltL_asymm (ltL_trans (hlk x hx) c3))]
        simp
theorem AT.pairs_nil {a : AT} (h : a.isNil = false) : a.pairs ≠ [] := by
  cases a with
  | nil => cases h
  | node l k v r => simp [AT.pairs]
/-- The pairs behind a deletion. -/
theorem AT.del_pairs (key : List Int) : ∀ a : AT, Rise a.pairs → (a.del key).pairs = a.pairs.filter (fun p => !(p.1 == key)) := by
  intro a
  induction a generalizing key with
  | nil => intro _; rfl
  | node l k v r ihl ihr =>
    intro h
    rw [AT.pairs] at h
    obtain ⟨hl, hr, hlk, hrk⟩ := h.app
    have ne : ∀ {a b : List Int}, a ≠ b → (!(a == b)) = true := fun {a b} q => by rw [beq_eq_false_iff_ne.2 q]; rfl
    rw [AT.del_node, AT.pairs, List.filter_append, List.filter_cons]
    by_cases c1 : ltL key k = true
    · rw [if_pos c1, AT.level_pairs, AT.pairs, ihl key hl, if_pos (ne (fun q => ltL_ne c1 q.symm)), filter_all (l := r.pairs) (fun x hx => ne (fun q => ltL_ne (ltL_trans c1 (hrk x hx)) q.symm))]
    · rw [if_neg c1]
      by_cases c2 : ltL k key = true
      · rw [if_pos c2, AT.level_pairs, AT.pairs, ihr key hr, if_pos (ne (ltL_ne c2)), filter_all (l := l.pairs) (fun x hx => ne (ltL_ne (ltL_trans (hlk x hx) c2)))]
      · have c3 : key = k := ltL_eq (by simpa using c1) (by simpa using c2)
        subst c3
        have e0 : ¬ ((!(((key, v) : KV).1 == key)) = true) := by simp
        rw [if_neg c2, filter_all (l := l.pairs) (fun x hx => ne (ltL_ne (hlk x hx))), filter_all (l := r.pairs) (fun x hx => ne (fun q => ltL_ne (hrk x hx) q.symm)), if_neg e0]
        by_cases n1 : l.isNil = true
        · rw [if_pos n1, AT.isNil_eq n1]
          rfl
        · rw [if_neg n1]
          by_cases n2 : r.isNil = true
          · rw [if_pos n2, AT.isNil_eq n2]
            simp [AT.pairs]
          · rw [if_neg n2, AT.level_pairs, AT.pairs, ihr _ hr]
            cases hp : r.pairs with
            | nil => exact absurd hp (AT.pairs_nil (by simpa using n2))
            | cons m rest =>
              have hm : ∀ p ∈ rest, ltL m.1 p.1 = true := by
                unfold Rise at hr
                rw [hp, List.pairwise_cons] at hr
                exact hr.1
              have e1 : ¬ ((!(m.1 == m.1)) = true) := by simp
              rw [List.headD_cons, List.filter_cons, if_neg e1, filter_all (l := rest) (fun x hx => ne (fun q => ltL_ne (hm x hx) q.symm))]
theorem Rise.filter {l : List KV} (h : Rise l) (p : KV → Bool) : Rise (l.filter p) := List.Pairwise.filter p h
theorem AT.put_rise (key val : List Int) (a : AT) (h : Rise a.pairs) : Rise (a.put key val).pairs := by
  rw [AT.put_pairs key val a h]
  unfold Rise
  rw [List.pairwise_append, List.pairwise_cons]
  refine ⟨h.filter _, ⟨fun q hq => (List.mem_filter.1 hq).2, h.filter _⟩, fun p hp q hq => ?_⟩
  have h1 := (List.mem_filter.1 hp).2
  rcases List.mem_cons.1 hq with rfl | hq
  · exact h1
  · exact ltL_trans h1 (List.mem_filter.1 hq).2
theorem AT.del_rise (key : List Int) (a : AT) (h : Rise a.pairs) : Rise (a.del key).pairs := by
  rw [AT.del_pairs key a h]
  exact h.filter _
/-- What is put in, in whatever order the others are told. -/
theorem put_perm (key val : List Int) (l : List KV) : (l.filter (fun p => ltL p.1 key) ++ ((key, val) :: l.filter (fun p => ltL key p.1))).Perm (l.filter (fun p => !(p.1 == key)) ++ [(key, val)]) := by
  induction l with
  | nil => exact List.Perm.refl _
  | cons x r ih =>
    rw [List.filter_cons, List.filter_cons, List.filter_cons]
    rcases ltL_three x.1 key with q | q | q
    · have e1 : (!(x.1 == key)) = true := by rw [beq_eq_false_iff_ne.2 (ltL_ne q)]; rfl
      rw [if_pos q, if_neg (by rw [ltL_asymm q]; simp), if_pos e1]
      exact ih.cons x
    · rw [if_neg (by rw [q, ltL_irr]; simp), if_neg (by rw [q, ltL_irr]; simp), if_neg (by rw [q]; simp)]
      exact ih
    · have e1 : (!(x.1 == key)) = true := by rw [beq_eq_false_iff_ne.2 (fun e => ltL_ne q e.symm)]; rfl
      rw [if_neg (by rw [ltL_asymm q]; simp), if_pos q, if_pos e1]
      refine List.Perm.trans ?_ (ih.cons x)
      have := List.perm_middle (a := x) (l₁ := r.filter (fun p => ltL p.1 key) ++ [(key, val)]) (l₂ := r.filter (fun p => ltL key p.1))
      simpa using this
/-- A row of pairs that has what a tree has. -/
theorem perm_filter {a b : List KV} (h : a.Perm b) (p : KV → Bool) : (a.filter p).Perm (b.filter p) := h.filter p
/-- In rising pairs each key occurs once: what is found is what is there. -/
theorem find_rise : ∀ {l : List KV} {p : KV}, Rise l → p ∈ l → l.find? (fun q => q.1 == p.1) = some p
  | x :: r, p, h, hp => by
    rw [List.find?_cons]
    unfold Rise at h
    rw [List.pairwise_cons] at h
    rcases List.mem_cons.1 hp with rfl | hp
    · simp
    · have e : (x.1 == p.1) = false := beq_eq_false_iff_ne.2 (ltL_ne (h.1 p hp))
      rw [e]
      exact find_rise h.2 hp
end Go.Proofs.Ytpjojhmdgeejmaa
