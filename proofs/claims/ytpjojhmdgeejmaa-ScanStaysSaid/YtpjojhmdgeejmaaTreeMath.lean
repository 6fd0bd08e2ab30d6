/- What the document says of trees, as functions. No program is named here. -/
import Derived.Test.YtpjojhmdgeejmaaTree
namespace Go.Proofs.Ytpjojhmdgeejmaa
set_option linter.unusedVariables false

/-- A function over a tree, out of its kids' answers. -/
def Tr.fold {α : Type} (f : Tr → List α → α) (t : Tr) : α := f t (t.kids.attach.map fun x => Tr.fold f x.1)
termination_by SizeOf.sizeOf t
decreasing_by exact Tr.size_lt x.2
theorem Tr.fold_eq {α : Type} (f : Tr → List α → α) (t : Tr) : t.fold f = f t (t.kids.map (Tr.fold f)) := by
  rw [Tr.fold]
  congr 1
  exact List.attach_map_val

/-- How many parts it has. -/
def countT (t : Tr) : Nat := t.fold fun _ rs => 1 + rs.sum
theorem countT_eq (t : Tr) : countT t = 1 + (t.kids.map countT).sum := by
  unfold countT
  rw [Tr.fold_eq]
/-- Counts it as a node? -/
def isNode (t : Tr) : Bool := t.k == 1 || (t.k == 2 || decide (0 < t.kids.length))
/-- Is there a way of more than b nodes? -/
def deepT (t : Tr) (b : Int) : Bool := t.fold (fun t (rs : List (Int → Bool)) b => isNode t && b == 0 || rs.any (fun r => r (b - 1))) b
theorem deepT_eq (t : Tr) (b : Int) : deepT t b = (isNode t && b == 0 || t.kids.any (fun x => deepT x (b - 1))) := by
  unfold deepT
  rw [Tr.fold_eq]
  simp [List.any_map, Function.comp_def]

/-- Is a part as it should be, its kids aside? -/
def partB (t : Tr) : Bool :=
  if t.k = 0 then decide (t.key.length = 0) && (decide (t.val.length = 0) && (decide (t.dig.length = 0) && decide (t.kids.length = 0)))
  else if t.k = 1 then decide (t.key.length ≤ 80) && (decide (t.val.length ≤ 1024) && (decide (t.dig.length = 0) && decide (t.kids.length = 2)))
  else if t.k = 2 then decide (t.key.length ≤ 80) && (decide (t.val.length = 0) && decide (t.kids.length = 2))
  else if t.k = 3 then decide (t.key.length = 0) && (decide (t.val.length = 0) && decide (t.kids.length = 0))
  else false
def formedT (t : Tr) : Bool := t.fold fun t rs => partB t && rs.all id
theorem formedT_eq (t : Tr) : formedT t = (partB t && t.kids.all formedT) := by
  unfold formedT
  rw [Tr.fold_eq]
  simp [List.all_map, Function.comp_def]
/-- The number of the error, or 0. -/
def checkT (t : Tr) : Nat := if deepT t 64 then 5 else if formedT t then 0 else 3

def fullT (t : Tr) : Bool := t.fold fun t rs => decide (t.k ≤ 1) && rs.all id
theorem fullT_eq (t : Tr) : fullT t = (decide (t.k ≤ 1) && t.kids.all fullT) := by
  unfold fullT
  rw [Tr.fold_eq]
  simp [List.all_map, Function.comp_def]
def depthT (t : Tr) : Nat := t.fold fun t rs => if rs.length = 0 then 0 else max (rs.getD 0 0) (rs.getD 1 0) + 1
theorem depthT_eq (t : Tr) : depthT t = if t.kids.length = 0 then 0 else max ((t.kids.map depthT).getD 0 0) ((t.kids.map depthT).getD 1 0) + 1 := by
  unfold depthT
  rw [Tr.fold_eq]
  simp only [List.length_map]
/-- The nodes of a tree that is formed, by the order of their keys. -/
def listT (t : Tr) : List Tr := t.fold fun t rs => if rs.length = 0 then [] else rs.getD 0 [] ++ (t :: rs.getD 1 [])
theorem listT_0 {t : Tr} (h : t.kids.length = 0) : listT t = [] := by
  unfold listT
  rw [Tr.fold_eq, if_pos (by simpa using h)]
theorem listT_2 {t : Tr} (h : t.kids.length = 2) : listT t = listT (t.kids[0]'(by omega)) ++ (t :: listT (t.kids[1]'(by omega))) := by
  have e : listT t = if (t.kids.map listT).length = 0 then [] else (t.kids.map listT).getD 0 [] ++ (t :: (t.kids.map listT).getD 1 []) := by
    conv => lhs; unfold listT
    rw [Tr.fold_eq]
    rfl
  rw [e, if_neg (by rw [List.length_map]; omega)]
  simp [List.getD, h]
theorem sum_two {l : List Nat} (h : l.length = 2) : l.sum = l[0]'(by omega) + l[1]'(by omega) := by
  rcases l with _ | ⟨a, _ | ⟨b, _ | ⟨c, r⟩⟩⟩ <;> simp at h
  simp
end Go.Proofs.Ytpjojhmdgeejmaa
