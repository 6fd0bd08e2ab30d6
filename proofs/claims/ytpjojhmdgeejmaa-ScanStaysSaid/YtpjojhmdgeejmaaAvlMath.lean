/- AVL trees: what the document says of them, as functions, and that they stay balanced. No program is named here. -/
import Derived.Test.YtpjojhmdgeejmaaRefTree2
namespace Go.Proofs.Ytpjojhmdgeejmaa
set_option linter.unusedVariables false

/-- The order of keys: bytewise. -/
def ltL : List Int → List Int → Bool
  | _, [] => false
  | [], _ :: _ => true
  | a :: x, b :: y => decide (a < b) || (a == b && ltL x y)
theorem ltL_irr : ∀ a : List Int, ltL a a = false
  | [] => rfl
  | a :: x => by simp [ltL, ltL_irr x]
theorem ltL_trans : ∀ {a b c : List Int}, ltL a b = true → ltL b c = true → ltL a c = true
  | _, [], _, h, _ => by simp [ltL] at h
  | _, _ :: _, [], _, h => by simp [ltL] at h
  | [], b :: y, c :: z, _, _ => rfl
  | a :: x, b :: y, c :: z, h1, h2 => by
    simp only [ltL, Bool.or_eq_true, decide_eq_true_eq, Bool.and_eq_true, beq_iff_eq] at h1 h2 ⊢
    rcases h1 with h1 | ⟨h1, h1'⟩
    · rcases h2 with h2 | ⟨h2, _⟩
      · left; omega
      · left; omega
    · rcases h2 with h2 | ⟨h2, h2'⟩
      · left; omega
      · right; exact ⟨by omega, ltL_trans h1' h2'⟩
theorem ltL_asymm {a b : List Int} (h : ltL a b = true) : ltL b a = false := by
  rw [Bool.eq_false_iff]
  intro h2
  have := ltL_trans h h2
  rw [ltL_irr] at this
  cases this
theorem ltL_eq : ∀ {a b : List Int}, ltL a b = false → ltL b a = false → a = b
  | [], [], _, _ => rfl
  | [], b :: y, h, _ => by simp [ltL] at h
  | a :: x, [], _, h => by simp [ltL] at h
  | a :: x, b :: y, h1, h2 => by
    simp only [ltL, Bool.or_eq_false_iff, decide_eq_false_iff_not, Bool.and_eq_false_iff, beq_eq_false_iff_ne] at h1 h2
    have hab : a = b := by omega
    subst hab
    rcases h1.2 with h | h
    · exact absurd rfl h
    · rcases h2.2 with h' | h'
      · exact absurd rfl h'
      · rw [ltL_eq h h']
theorem ltL_ne {a b : List Int} (h : ltL a b = true) : a ≠ b := by
  rintro rfl
  rw [ltL_irr] at h
  cases h
theorem ltL_three (a b : List Int) : ltL a b = true ∨ a = b ∨ ltL b a = true := by
  cases h1 : ltL a b
  · cases h2 : ltL b a
    · exact .inr (.inl (ltL_eq h1 h2))
    · exact .inr (.inr rfl)
  · exact .inl rfl

/-- A full tree. -/
inductive AT where
  | nil
  | node (l : AT) (k v : List Int) (r : AT)
def AT.depth : AT → Nat
  | .nil => 0
  | .node l _ _ r => max l.depth r.depth + 1
/-- Its pairs, by the order of their keys. -/
def AT.pairs : AT → List (List Int × List Int)
  | .nil => []
  | .node l k v r => l.pairs ++ ((k, v) :: r.pairs)
def AT.bal : AT → Prop
  | .nil => True
  | .node l _ _ r => l.bal ∧ r.bal ∧ l.depth ≤ r.depth + 1 ∧ r.depth ≤ l.depth + 1
def AT.tilt : AT → Int
  | .nil => 0
  | .node l _ _ r => (l.depth : Int) - (r.depth : Int)
def AT.right : AT → AT
  | .node (.node ll lk lv lr) k v r => .node ll lk lv (.node lr k v r)
  | t => t
def AT.left : AT → AT
  | .node l k v (.node rl rk rv rr) => .node (.node l k v rl) rk rv rr
  | t => t
def AT.level : AT → AT
  | .nil => .nil
  | .node l k v r =>
    if (l.depth : Int) - (r.depth : Int) = 2 then AT.right (.node (if l.tilt < 0 then l.left else l) k v r)
    else if (l.depth : Int) - (r.depth : Int) = -2 then AT.left (.node l k v (if 0 < r.tilt then r.right else r))
    else .node l k v r
def AT.isNil : AT → Bool
  | .nil => true
  | _ => false
theorem AT.isNil_eq {a : AT} (h : a.isNil = true) : a = .nil := by
  cases a with
  | nil => rfl
  | node l k v r => cases h
def AT.put (key val : List Int) : AT → AT
  | .nil => .node .nil key val .nil
  | .node l k v r => if key = k then .node l key val r else if ltL key k then (AT.node (AT.put key val l) k v r).level else (AT.node l k v (AT.put key val r)).level
def AT.del (key : List Int) : AT → AT
  | .nil => .nil
  | .node l k v r =>
    if ltL key k then (AT.node (AT.del key l) k v r).level
    else if ltL k key then (AT.node l k v (AT.del key r)).level
    else if l.isNil then r
    else if r.isNil then l
    else (AT.node l (r.pairs.headD ([], [])).1 (r.pairs.headD ([], [])).2 (AT.del (r.pairs.headD ([], [])).1 r)).level
def AT.get (key : List Int) (a : AT) : Option (List Int) := (a.pairs.find? fun p => p.1 == key).map (·.2)

theorem AT.level_node (l : AT) (k v : List Int) (r : AT) : (AT.node l k v r).level = if (l.depth : Int) - (r.depth : Int) = 2 then AT.right (.node (if l.tilt < 0 then l.left else l) k v r)
    else if (l.depth : Int) - (r.depth : Int) = -2 then AT.left (.node l k v (if 0 < r.tilt then r.right else r)) else .node l k v r := rfl
theorem AT.put_node (key val : List Int) (l : AT) (k v : List Int) (r : AT) : (AT.node l k v r).put key val = if key = k then .node l key val r else if ltL key k then (AT.node (AT.put key val l) k v r).level else (AT.node l k v (AT.put key val r)).level := by rw [AT.put]
theorem AT.del_node (key : List Int) (l : AT) (k v : List Int) (r : AT) : (AT.node l k v r).del key = if ltL key k then (AT.node (AT.del key l) k v r).level else if ltL k key then (AT.node l k v (AT.del key r)).level else if l.isNil then r else if r.isNil then l
    else (AT.node l (r.pairs.headD ([], [])).1 (r.pairs.headD ([], [])).2 (AT.del (r.pairs.headD ([], [])).1 r)).level := by rw [AT.del]
theorem AT.right_pairs (t : AT) : t.right.pairs = t.pairs := by
  unfold AT.right
  split
  · simp [AT.pairs]
  · rfl
theorem AT.left_pairs (t : AT) : t.left.pairs = t.pairs := by
  unfold AT.left
  split
  · simp [AT.pairs]
  · rfl
theorem AT.level_pairs (t : AT) : t.level.pairs = t.pairs := by
  cases t with
  | nil => rfl
  | node l k v r =>
    rw [AT.level_node]
    split
    · rw [AT.right_pairs]
      split
      · simp [AT.pairs, AT.left_pairs]
      · rfl
    · split
      · rw [AT.left_pairs]
        split
        · simp [AT.pairs, AT.right_pairs]
        · rfl
      · rfl
/-- A node whose kids' depths differ by two at most is balanced when it is leveled. -/
theorem AT.level_bal (l : AT) (k v : List Int) (r : AT) (hl : l.bal) (hr : r.bal) (h1 : l.depth ≤ r.depth + 2) (h2 : r.depth ≤ l.depth + 2) :
    (AT.node l k v r).level.bal ∧ max l.depth r.depth ≤ (AT.node l k v r).level.depth ∧ (AT.node l k v r).level.depth ≤ max l.depth r.depth + 1 ∧ (l.depth ≤ r.depth + 1 → r.depth ≤ l.depth + 1 → (AT.node l k v r).level.depth = max l.depth r.depth + 1) := by
  rw [AT.level_node]
  by_cases c1 : (l.depth : Int) - (r.depth : Int) = 2
  · rw [if_pos c1]
    cases l with
    | nil => simp [AT.depth] at c1 <;> omega
    | node ll lk lv lr =>
      simp only [AT.bal] at hl
      simp only [AT.depth] at c1 h1 h2
      by_cases c2 : (AT.node ll lk lv lr).tilt < 0
      · rw [if_pos c2]
        simp only [AT.tilt] at c2
        cases lr with
        | nil => simp [AT.depth] at c2 <;> omega
        | node a b c d =>
          simp only [AT.bal, AT.depth] at *
          simp only [AT.left, AT.right, AT.bal, AT.depth]
          refine ⟨⟨⟨hl.1, hl.2.1.1, ?_, ?_⟩, ⟨hl.2.1.2.1, hr, ?_, ?_⟩, ?_, ?_⟩, ?_, ?_, ?_⟩ <;> omega
      · rw [if_neg c2]
        simp only [AT.tilt] at c2
        simp only [AT.right, AT.bal, AT.depth]
        refine ⟨⟨hl.1, ⟨hl.2.1, hr, ?_, ?_⟩, ?_, ?_⟩, ?_, ?_, ?_⟩ <;> omega
  · rw [if_neg c1]
    by_cases c2 : (l.depth : Int) - (r.depth : Int) = -2
    · rw [if_pos c2]
      cases r with
      | nil => simp [AT.depth] at c2 <;> omega
      | node rl rk rv rr =>
        simp only [AT.bal] at hr
        simp only [AT.depth] at c2 h1 h2
        by_cases c3 : 0 < (AT.node rl rk rv rr).tilt
        · rw [if_pos c3]
          simp only [AT.tilt] at c3
          cases rl with
          | nil => simp [AT.depth] at c3 <;> omega
          | node a b c d =>
            simp only [AT.bal, AT.depth] at *
            simp only [AT.left, AT.right, AT.bal, AT.depth]
            refine ⟨⟨⟨hl, hr.1.1, ?_, ?_⟩, ⟨hr.1.2.1, hr.2.1, ?_, ?_⟩, ?_, ?_⟩, ?_, ?_, ?_⟩ <;> omega
        · rw [if_neg c3]
          simp only [AT.tilt] at c3
          simp only [AT.left, AT.bal, AT.depth]
          refine ⟨⟨⟨hl, hr.1, ?_, ?_⟩, hr.2.1, ?_, ?_⟩, ?_, ?_, ?_⟩ <;> omega
    · rw [if_neg c2]
      simp only [AT.bal, AT.depth]
      exact ⟨⟨hl, hr, by omega, by omega⟩, by omega, by omega, fun _ _ => trivial⟩
theorem AT.put_bal (key val : List Int) : ∀ a : AT, a.bal → (a.put key val).bal ∧ a.depth ≤ (a.put key val).depth ∧ (a.put key val).depth ≤ a.depth + 1 := by
  intro a
  induction a with
  | nil =>
    intro _
    simp [AT.put, AT.bal, AT.depth]
  | node l k v r ihl ihr =>
    intro hb
    simp only [AT.bal] at hb
    rw [AT.put_node]
    split
    · simp only [AT.bal, AT.depth]
      exact ⟨hb, by omega, by omega⟩
    · split
      · obtain ⟨b1, d1, d2⟩ := ihl hb.1
        obtain ⟨q1, q2, q3, q4⟩ := AT.level_bal (l.put key val) k v r b1 hb.2.1 (by omega) (by omega)
        refine ⟨q1, ?_, ?_⟩
        · simp only [AT.depth]
          by_cases c : (l.put key val).depth ≤ r.depth + 1
          · rw [q4 c (by omega)]; omega
          · omega
        · simp only [AT.depth]; omega
      · obtain ⟨b1, d1, d2⟩ := ihr hb.2.1
        obtain ⟨q1, q2, q3, q4⟩ := AT.level_bal l k v (r.put key val) hb.1 b1 (by omega) (by omega)
        refine ⟨q1, ?_, ?_⟩
        · simp only [AT.depth]
          by_cases c : (r.put key val).depth ≤ l.depth + 1
          · rw [q4 (by omega) c]; omega
          · omega
        · simp only [AT.depth]; omega
theorem AT.del_bal (key : List Int) : ∀ a : AT, a.bal → (a.del key).bal ∧ a.depth ≤ (a.del key).depth + 1 ∧ (a.del key).depth ≤ a.depth := by
  intro a
  induction a generalizing key with
  | nil =>
    intro _
    simp [AT.del, AT.bal, AT.depth]
  | node l k v r ihl ihr =>
    intro hb
    simp only [AT.bal] at hb
    have stepr : ∀ (x y key' : List Int), ((AT.node l x y (r.del key')).level.bal ∧ (AT.node l k v r).depth ≤ (AT.node l x y (r.del key')).level.depth + 1 ∧ (AT.node l x y (r.del key')).level.depth ≤ (AT.node l k v r).depth) := fun x y key' => by
      obtain ⟨b1, d1, d2⟩ := ihr key' hb.2.1
      obtain ⟨q1, q2, q3, q4⟩ := AT.level_bal l x y (r.del key') hb.1 b1 (by omega) (by omega)
      refine ⟨q1, ?_, ?_⟩
      · simp only [AT.depth]; omega
      · simp only [AT.depth]
        by_cases c : l.depth ≤ (r.del key').depth + 1
        · rw [q4 c (by omega)]; omega
        · omega
    rw [AT.del_node]
    split
    · obtain ⟨b1, d1, d2⟩ := ihl key hb.1
      obtain ⟨q1, q2, q3, q4⟩ := AT.level_bal (l.del key) k v r b1 hb.2.1 (by omega) (by omega)
      refine ⟨q1, ?_, ?_⟩
      · simp only [AT.depth]; omega
      · simp only [AT.depth]
        by_cases c : r.depth ≤ (l.del key).depth + 1
        · rw [q4 (by omega) c]; omega
        · omega
    · split
      · exact stepr k v key
      · split
        · rename_i hn
          obtain rfl := AT.isNil_eq hn
          simp only [AT.depth] at hb ⊢
          exact ⟨hb.2.1, by omega, by omega⟩
        · split
          · rename_i hn
            obtain rfl := AT.isNil_eq hn
            simp only [AT.depth] at hb ⊢
            exact ⟨hb.1, by omega, by omega⟩
          · exact stepr _ _ _
end Go.Proofs.Ytpjojhmdgeejmaa
