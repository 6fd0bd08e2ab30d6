/- AVL trees as trees of layer 4; which trees are balanced. No program is named here. -/
import Derived.Test.YtpjojhmdgeejmaaAvlPairs
namespace Go.Proofs.Ytpjojhmdgeejmaa
set_option linter.unusedVariables false

def AT.tr : AT → Tr
  | .nil => .mk 0 [] [] [] []
  | .node l k v r => .mk 1 k v [] [l.tr, r.tr]
/-- Keys and values within their bounds. -/
def Lim (l : List KV) : Prop := ∀ p ∈ l, p.1.length ≤ 80 ∧ p.2.length ≤ 1024
/-- The nodes, by the order of their keys. -/
def AT.nodes : AT → List AT
  | .nil => []
  | .node l k v r => l.nodes ++ (.node l k v r :: r.nodes)
def AT.kv : AT → KV
  | .nil => ([], [])
  | .node _ k v _ => (k, v)
theorem AT.tr_kids (l : AT) (k v : List Int) (r : AT) : (AT.node l k v r).tr.kids = [l.tr, r.tr] := rfl
theorem AT.tr_formed : ∀ a : AT, formedT a.tr = true ↔ Lim a.pairs := by
  intro a
  induction a with
  | nil =>
    rw [formedT_eq]
    exact ⟨fun _ p hp => by simp [AT.pairs] at hp, fun _ => rfl⟩
  | node l k v r ihl ihr =>
    have e : formedT (AT.node l k v r).tr = ((decide (k.length ≤ 80) && decide (v.length ≤ 1024)) && (formedT l.tr && formedT r.tr)) := by
      have e2 : partB (AT.node l k v r).tr = (decide (k.length ≤ 80) && (decide (v.length ≤ 1024) && (true && true))) := rfl
      rw [formedT_eq, AT.tr_kids, e2]
      simp
    rw [e]
    simp only [Bool.and_eq_true, decide_eq_true_eq, ihl, ihr]
    unfold Lim
    simp only [AT.pairs, List.mem_append, List.mem_cons]
    constructor
    · rintro ⟨h1, h2, h3⟩ p (hp | rfl | hp)
      · exact h2 p hp
      · exact h1
      · exact h3 p hp
    · intro h
      exact ⟨h _ (.inr (.inl rfl)), fun p hp => h p (.inl hp), fun p hp => h p (.inr (.inr hp))⟩
theorem AT.tr_full : ∀ a : AT, fullT a.tr = true := by
  intro a
  induction a with
  | nil => rw [fullT_eq]; rfl
  | node l k v r ihl ihr =>
    rw [fullT_eq, AT.tr_kids]
    simp [ihl, ihr, AT.tr, Tr.k]
theorem part_0 {t : Tr} (h : partB t = true) (hk : t.k = 0) : t.key = [] ∧ t.val = [] ∧ t.dig = [] ∧ t.kids = [] := by
  unfold partB at h
  rw [if_pos hk] at h
  simpa only [Bool.and_eq_true, decide_eq_true_eq, List.length_eq_zero_iff] using h
theorem part_1 {t : Tr} (h : partB t = true) (hk : t.k = 1) : t.dig = [] := by
  unfold partB at h
  rw [if_neg (by omega), if_pos hk] at h
  simp only [Bool.and_eq_true, decide_eq_true_eq, List.length_eq_zero_iff] at h
  exact h.2.2.1
theorem Tr.eta (t : Tr) : t = .mk t.k t.key t.val t.dig t.kids := by cases t; rfl
theorem AT.of_full : ∀ t : Tr, formedT t = true → fullT t = true → ∃ a : AT, t = a.tr := by
  intro t
  induction t using Tr.ind with
  | h t ih =>
  intro hf hl
  obtain ⟨hp, hk⟩ := formed_kids hf
  rw [fullT_eq, Bool.and_eq_true, decide_eq_true_eq, List.all_eq_true] at hl
  rcases part_kids hp with ⟨h0, h | h⟩ | ⟨h2, h | h⟩
  · obtain ⟨q1, q2, q3, q4⟩ := part_0 hp h
    exact ⟨.nil, by rw [Tr.eta t, h, q1, q2, q3, q4]; rfl⟩
  · omega
  · have q := part_1 hp h
    obtain ⟨a, ha⟩ := ih _ (List.getElem_mem (by omega : 0 < t.kids.length)) (hk 0 (by omega)) (hl.2 _ (List.getElem_mem _))
    obtain ⟨b, hb⟩ := ih _ (List.getElem_mem (by omega : 1 < t.kids.length)) (hk 1 (by omega)) (hl.2 _ (List.getElem_mem _))
    have hks : t.kids = [a.tr, b.tr] := by
      rw [← ha, ← hb]
      exact List.ext_getElem (by simpa using h2) (fun i h3 h4 => by
        rcases (by omega : i = 0 ∨ i = 1) with rfl | rfl <;> rfl)
    exact ⟨.node a t.key t.val b, by rw [Tr.eta t, h, q, hks]; rfl⟩
  · omega
theorem AT.tr_depth : ∀ a : AT, depthT a.tr = a.depth := by
  intro a
  induction a with
  | nil => rw [depthT_eq]; rfl
  | node l k v r ihl ihr =>
    rw [depth_two (by rfl)]
    simp only [AT.tr_kids, List.getElem_cons_zero, List.getElem_cons_succ, ihl, ihr, AT.depth]
theorem AT.tr_list : ∀ a : AT, listT a.tr = a.nodes.map AT.tr := by
  intro a
  induction a with
  | nil => exact listT_0 rfl
  | node l k v r ihl ihr =>
    rw [listT_2 (by rfl)]
    simp only [AT.tr_kids, List.getElem_cons_zero, List.getElem_cons_succ, ihl, ihr, AT.nodes, List.map_append, List.map_cons]
theorem AT.nodes_kv : ∀ a : AT, a.nodes.map AT.kv = a.pairs := by
  intro a
  induction a with
  | nil => rfl
  | node l k v r ihl ihr => simp [AT.nodes, AT.pairs, ihl, ihr, AT.kv]
theorem AT.tr_deep : ∀ (a : AT) (b : Int), 0 ≤ b → deepT a.tr b = decide (b < (a.depth : Int)) := by
  intro a
  induction a with
  | nil =>
    intro b hb
    have e : isNode AT.nil.tr = false := rfl
    have e2 : AT.nil.tr.kids = [] := rfl
    rw [deepT_eq, e, e2, Bool.false_and, List.any_nil, Bool.or_false]
    symm
    rw [decide_eq_false_iff_not, AT.depth]
    omega
  | node l k v r ihl ihr =>
    intro b hb
    rw [deepT_eq, AT.tr_kids]
    have hn : isNode (AT.node l k v r).tr = true := by simp [isNode, AT.tr, Tr.k]
    rw [hn, Bool.true_and]
    by_cases h0 : b = 0
    · subst h0
      have e : decide ((0 : Int) < ((AT.node l k v r).depth : Int)) = true := by rw [decide_eq_true_eq, AT.depth]; omega
      rw [e]
      rfl
    · have e : (b == 0) = false := by simp [h0]
      rw [e, Bool.false_or]
      rw [List.any_cons, List.any_cons, List.any_nil, Bool.or_false, ihl (b - 1) (by omega), ihr (b - 1) (by omega), AT.depth, Bool.eq_iff_iff, Bool.or_eq_true, decide_eq_true_eq, decide_eq_true_eq, decide_eq_true_eq]
      omega
/-- Its kids' depths, one less the other. -/
def tiltT (t : Tr) : Int := ((t.kids.map depthT).getD 0 0 : Int) - ((t.kids.map depthT).getD 1 0 : Int)
/-- Do the keys rise, and is each node balanced? -/
def levelB (l : List Tr) : Bool := (List.range l.length).all fun i => (i == 0 || ltL (l.getD (i - 1) (.mk 0 [] [] [] [])).key (l.getD i (.mk 0 [] [] [] [])).key) && (decide (tiltT (l.getD i (.mk 0 [] [] [] [])) ≤ 1) && decide (-1 ≤ tiltT (l.getD i (.mk 0 [] [] [] []))))
def isT (t : Tr) : Bool := decide (checkT t = 0) && (fullT t && levelB (listT t))
theorem AT.bal_nodes : ∀ a : AT, a.bal ↔ ∀ n ∈ a.nodes, n.tilt ≤ 1 ∧ -1 ≤ n.tilt := by
  intro a
  induction a with
  | nil => exact ⟨fun _ n hn => (by simp [AT.nodes] at hn), fun _ => trivial⟩
  | node l k v r ihl ihr =>
    simp only [AT.bal, AT.nodes, List.mem_append, List.mem_cons, ihl, ihr]
    constructor
    · rintro ⟨h1, h2, h3, h4⟩ n (hn | rfl | hn)
      · exact h1 n hn
      · simp only [AT.tilt]; omega
      · exact h2 n hn
    · intro h
      have := h _ (.inr (.inl rfl))
      simp only [AT.tilt] at this
      exact ⟨fun n hn => h n (.inl hn), fun n hn => h n (.inr (.inr hn)), by omega, by omega⟩
theorem AT.nodes_node : ∀ (a : AT) (n : AT), n ∈ a.nodes → n.isNil = false := by
  intro a
  induction a with
  | nil => intro n hn; simp [AT.nodes] at hn
  | node l k v r ihl ihr =>
    intro n hn
    simp only [AT.nodes, List.mem_append, List.mem_cons] at hn
    rcases hn with hn | rfl | hn
    · exact ihl n hn
    · rfl
    · exact ihr n hn
theorem AT.tilt_tr {n : AT} (h : n.isNil = false) : tiltT n.tr = n.tilt ∧ n.tr.key = n.kv.1 ∧ n.tr.val = n.kv.2 := by
  cases n with
  | nil => cases h
  | node l k v r =>
    refine ⟨?_, rfl, rfl⟩
    unfold tiltT
    rw [AT.tr_kids]
    simp [AT.tr_depth, AT.tilt]
theorem rise_of_steps : ∀ (l : List KV), (∀ i (h : i + 1 < l.length), ltL l[i].1 l[i + 1].1 = true) → Rise l
  | [], _ => List.Pairwise.nil
  | [x], _ => List.pairwise_singleton _ _
  | x :: y :: r, h => by
    have ih := rise_of_steps (y :: r) (fun i hi => h (i + 1) (by simp at hi ⊢; omega))
    have h0 := h 0 (by simp)
    unfold Rise at ih ⊢
    rw [List.pairwise_cons]
    refine ⟨fun q hq => ?_, ih⟩
    rcases List.mem_cons.1 hq with rfl | hq
    · exact h0
    · rw [List.pairwise_cons] at ih
      exact ltL_trans h0 (ih.1 q hq)
theorem steps_of_rise {l : List KV} (h : Rise l) : ∀ i (hi : i + 1 < l.length), ltL l[i].1 l[i + 1].1 = true := fun i hi => List.pairwise_iff_getElem.1 h i (i + 1) (by omega) hi (by omega)
theorem AT.level_iff (a : AT) : levelB (listT a.tr) = true ↔ a.bal ∧ Rise a.pairs := by
  rw [AT.tr_list]
  have hlen : (a.nodes.map AT.tr).length = a.nodes.length := List.length_map _
  have hpl : a.pairs.length = a.nodes.length := by rw [← AT.nodes_kv, List.length_map]
  have hkey : ∀ i (hi : i < a.nodes.length), ((a.nodes.map AT.tr).getD i (.mk 0 [] [] [] [])).key = (a.pairs[i]'(by omega)).1 := fun i hi => by
    have h1 := (AT.tilt_tr (AT.nodes_node a _ (List.getElem_mem hi))).2.1
    have e : a.pairs[i]'(by omega) = (a.nodes[i]).kv := by simp only [← AT.nodes_kv, List.getElem_map]
    rw [e, ← h1]
    simp [List.getD, hi]
  have htil : ∀ i (hi : i < a.nodes.length), tiltT ((a.nodes.map AT.tr).getD i (.mk 0 [] [] [] [])) = (a.nodes[i]).tilt := fun i hi => by
    rw [← (AT.tilt_tr (AT.nodes_node a _ (List.getElem_mem hi))).1]
    simp [List.getD, hi]
  unfold levelB
  rw [List.all_eq_true]
  simp only [List.mem_range, hlen, Bool.and_eq_true, Bool.or_eq_true, beq_iff_eq, decide_eq_true_eq]
  constructor
  · intro h
    refine ⟨(AT.bal_nodes a).2 fun n hn => ?_, rise_of_steps _ fun i hi => ?_⟩
    · obtain ⟨i, hi, rfl⟩ := List.getElem_of_mem hn
      have := (h i hi).2
      rw [htil i hi] at this
      exact this
    · rcases (h (i + 1) (by omega)).1 with q | q
      · omega
      · rw [Nat.add_sub_cancel, hkey i (by omega), hkey (i + 1) (by omega)] at q
        exact q
  · rintro ⟨h1, h2⟩ i hi
    refine ⟨?_, ?_⟩
    · rcases Nat.eq_zero_or_pos i with rfl | hp
      · exact .inl rfl
      · right
        obtain ⟨j, rfl⟩ : ∃ j, i = j + 1 := ⟨i - 1, by omega⟩
        rw [Nat.add_sub_cancel, hkey j (by omega), hkey (j + 1) hi]
        exact steps_of_rise h2 j (by omega)
    · rw [htil i hi]
      exact (AT.bal_nodes a).1 h1 _ (List.getElem_mem hi)
/-- Which trees are balanced. -/
theorem isT_iff (t : Tr) : isT t = true ↔ ∃ a : AT, t = a.tr ∧ a.bal ∧ Rise a.pairs ∧ Lim a.pairs ∧ a.depth ≤ 64 := by
  unfold isT
  rw [Bool.and_eq_true, Bool.and_eq_true, decide_eq_true_eq]
  constructor
  · rintro ⟨hc, hf, hl⟩
    have hfo : formedT t = true := by
      unfold checkT at hc
      split at hc
      · cases hc
      · split at hc
        · assumption
        · cases hc
    obtain ⟨a, rfl⟩ := AT.of_full t hfo hf
    have hd : deepT a.tr 64 = false := by
      unfold checkT at hc
      split at hc
      · cases hc
      · rename_i q; simpa using q
    rw [AT.tr_deep a 64 (by omega), decide_eq_false_iff_not] at hd
    exact ⟨a, rfl, ((AT.level_iff a).1 hl).1, ((AT.level_iff a).1 hl).2, (AT.tr_formed a).1 hfo, by omega⟩
  · rintro ⟨a, rfl, h1, h2, h3, h4⟩
    refine ⟨?_, AT.tr_full a, (AT.level_iff a).2 ⟨h1, h2⟩⟩
    have hd : deepT a.tr 64 = false := by rw [AT.tr_deep a 64 (by omega), decide_eq_false_iff_not]; omega
    unfold checkT
    rw [hd, (AT.tr_formed a).2 h3]
    rfl
/-- One tree at most is a tree of layer 4. -/
theorem AT.tr_inj : ∀ {a b : AT}, a.tr = b.tr → a = b
  | .nil, .nil, _ => rfl
  | .nil, .node l k v r, h => by simp [AT.tr] at h
  | .node l k v r, .nil, h => by simp [AT.tr] at h
  | .node l k v r, .node l' k' v' r', h => by
    simp only [AT.tr, Tr.mk.injEq, List.cons.injEq, and_true, true_and] at h
    rw [h.1, h.2.1, AT.tr_inj h.2.2.1, AT.tr_inj h.2.2.2]
end Go.Proofs.Ytpjojhmdgeejmaa
