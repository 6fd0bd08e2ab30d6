/- Trees that are balanced, whose keys rise, within their bounds: they stay so. No program is named here. -/
import Derived.Test.YtpjojhmdgeejmaaAvlTr
namespace Go.Proofs.Ytpjojhmdgeejmaa
set_option linter.unusedVariables false

structure Good (a : AT) : Prop where
  bal : a.bal
  rise : Rise a.pairs
  lim : Lim a.pairs
theorem Good.nil : Good .nil := ⟨trivial, List.Pairwise.nil, fun p hp => by cases hp⟩
theorem AT.depth_le : ∀ a : AT, a.depth ≤ a.pairs.length := by
  intro a
  induction a with
  | nil => exact Nat.le_refl _
  | node l k v r ihl ihr =>
    simp only [AT.depth, AT.pairs, List.length_append, List.length_cons]
    omega
theorem Good.put {a : AT} (h : Good a) {key val : List Int} (hk : key.length ≤ 80) (hv : val.length ≤ 1024) : Good (a.put key val) := by
  refine ⟨(AT.put_bal key val a h.bal).1, ?_, ?_⟩
  · rw [AT.put_pairs key val a h.rise]
    have hr := h.rise
    unfold Rise at hr ⊢
    rw [List.pairwise_append, List.pairwise_cons]
    refine ⟨hr.filter _, ⟨fun q hq => (List.mem_filter.1 hq).2, hr.filter _⟩, fun p hp q hq => ?_⟩
    have h1 : ltL p.1 key = true := (List.mem_filter.1 hp).2
    rcases List.mem_cons.1 hq with rfl | hq
    · exact h1
    · exact ltL_trans h1 (List.mem_filter.1 hq).2
  · rw [AT.put_pairs key val a h.rise]
    intro p hp
    rcases List.mem_append.1 hp with hp | hp
    · exact h.lim p (List.mem_filter.1 hp).1
    · rcases List.mem_cons.1 hp with rfl | hp
      · exact ⟨hk, hv⟩
      · exact h.lim p (List.mem_filter.1 hp).1
theorem Good.del {a : AT} (h : Good a) (key : List Int) : Good (a.del key) := by
  refine ⟨(AT.del_bal key a h.bal).1, ?_, ?_⟩
  · rw [AT.del_pairs key a h.rise]
    exact List.Pairwise.filter _ h.rise
  · rw [AT.del_pairs key a h.rise]
    intro p hp
    exact h.lim p (List.mem_filter.1 hp).1
theorem Good.is {a : AT} (h : Good a) (hd : a.pairs.length ≤ 64) : isT a.tr = true := (isT_iff a.tr).2 ⟨a, rfl, h.bal, h.rise, h.lim, Nat.le_trans (AT.depth_le a) hd⟩
theorem AT.put_len (key val : List Int) {a : AT} (h : Rise a.pairs) : (a.put key val).pairs.length ≤ a.pairs.length + 1 := by
  rw [AT.put_pairs key val a h, List.length_append, List.length_cons]
  have h1 : (a.pairs.filter fun p => ltL p.1 key).length + (a.pairs.filter fun p => ltL key p.1).length ≤ a.pairs.length := by
    generalize a.pairs = l
    induction l with
    | nil => exact Nat.le_refl _
    | cons p l ih =>
      rw [List.filter_cons, List.filter_cons, List.length_cons]
      cases c1 : ltL p.1 key
      · cases c2 : ltL key p.1 <;> simp <;> omega
      · rw [ltL_asymm c1]
        simp
        omega
  omega
theorem AT.del_len (key : List Int) {a : AT} (h : Rise a.pairs) : (a.del key).pairs.length ≤ a.pairs.length := by
  rw [AT.del_pairs key a h]
  exact List.length_filter_le _ _
/-- How deep a balanced tree is at most. -/
theorem AT.deep_nodes : ∀ a : AT, a.bal → 2 ^ (a.depth / 2) ≤ a.pairs.length + 1 := by
  intro a
  induction a with
  | nil => intro _; exact Nat.le_refl _
  | node l k v r ihl ihr =>
    intro hb
    simp only [AT.bal] at hb
    have h1 := ihl hb.1
    have h2 := ihr hb.2.1
    simp only [AT.depth, AT.pairs, List.length_append, List.length_cons]
    have key : ∀ m x y : Nat, m ≤ x + 1 → m ≤ y + 1 → (m + 1) / 2 = (m - 1) / 2 + 1 ∨ m = 0 := fun m x y _ _ => by omega
    have mono : ∀ {p q : Nat}, p ≤ q → 2 ^ p ≤ 2 ^ q := fun h => Nat.pow_le_pow_right (by omega) h
    have a1 : 2 ^ ((max l.depth r.depth - 1) / 2) ≤ 2 ^ (l.depth / 2) := mono (by omega)
    have a2 : 2 ^ ((max l.depth r.depth - 1) / 2) ≤ 2 ^ (r.depth / 2) := mono (by omega)
    rcases Nat.eq_zero_or_pos (max l.depth r.depth) with h0 | h0
    · rw [h0]
      simp
    · have e : (max l.depth r.depth + 1) / 2 = (max l.depth r.depth - 1) / 2 + 1 := by omega
      rw [e, Nat.pow_succ]
      omega
theorem AT.shallow {a : AT} (hb : a.bal) (hn : a.pairs.length ≤ 500) : a.depth ≤ 60 := by
  have h := AT.deep_nodes a hb
  rcases Nat.lt_or_ge 60 a.depth with q | q
  · have h2 : 2 ^ 30 ≤ 2 ^ (a.depth / 2) := Nat.pow_le_pow_right (by omega) (by omega)
    omega
  · exact q
end Go.Proofs.Ytpjojhmdgeejmaa
