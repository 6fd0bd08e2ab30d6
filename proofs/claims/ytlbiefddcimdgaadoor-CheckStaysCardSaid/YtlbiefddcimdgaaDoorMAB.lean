/- Rows of trees in one's own memory. No program is named here. Rows of records in one's own memory, and as arguments. No program is named here. A tree that is an argument is one that lies in memory. No program is named here. Records of two byte strings and a bit. No program is named here. Spans of keys: what the document says of them, as functions. No program is named here. AVL trees: what pairs they have behind an insertion, and behind a deletion. No program is named here. AVL trees as trees of layer 4; which trees are balanced. No program is named here. The proof of a balanced tree for a span, as a function: its digest, its form, its nodes. No program is named here. What a proof shows of a span, as a function: its items, their order, what is covered. No program is named here. Boxes of trees that are written; a tree of two that were made; appends of bytes at a step. No program is named here. A full tree does not lie in a box: what is written there leaves it as it is. No program is named here. Rows of pairs of a key and a value. No program is named here. Boxes of trees, results that are trees, strings of bytes: the types alone are named. Errors that are Codes. What the program's scan tells, as its contracts say it: the types alone are named. What is told of a span: keys of the proof, in the span; of a point's span one at most. No program is named here. Rows of one's own, of unlike types. The contract of bytes.Compare: the order of byte strings. In a region that draws its order: what may be taken first. No program is named here. The contract of the program's In of spans. The contract of bytes.Clone. bytes.Clone, as a row of one's own. The contract of the document's In of spans. The contract of the document's list of nodes. Rows of trees: the cells of the i-th; their heads. No program is named here. The row of a tree's nodes, and the i-th of them. No program is named here. The contract of the document's Same of lists of pairs. -/
import Derived.Test.YtlbiefddcimdgaaDoorMAA
import Derived.Test.YtlbiefddcimdgaaDoorProg
import Derived.Lib.IfaceNeq
import Derived.Lib.Bytealg
import Derived.Lib.BytesEntry
import Derived.Deep.RegionHeld3
import Derived.Lib.SliceRun
/- Rows of trees in one's own memory. No program is named here. -/
namespace Go.Proofs.YtlbiefddcimdgaaDoor
open Go.RowKit
set_option linter.unusedVariables false

/-- The cells of trees, one behind the other. -/
def cellsT (hs : List TH) : List Value := hs.flatMap TH.cells
theorem cellsT_len (hs : List TH) : (cellsT hs).length = hs.length * 5 := by
  unfold cellsT
  induction hs with
  | nil => rfl
  | cons h r ih =>
    rw [List.flatMap_cons, List.length_append, ih]
    simp [TH.cells]
    omega
theorem cellsT_app (a b : List TH) : cellsT (a ++ b) = cellsT a ++ cellsT b := by simp [cellsT]
theorem cellsT_one {hs : List TH} {u : Value} (h : u ∈ cellsT hs) : u.oneCell' = true := by
  unfold cellsT at h
  rw [List.mem_flatMap] at h
  obtain ⟨x, _, hx⟩ := h
  simp [TH.cells] at hx
  rcases hx with rfl | rfl | rfl | rfl | rfl <;> rfl
theorem cellsT_get (hs : List TH) (i j : Nat) (hi : i < hs.length) (hj : j < 5) : (cellsT hs)[i * 5 + j]? = some (hs[i].cell j) := by
  induction hs generalizing i with
  | nil => simp at hi
  | cons h r ih =>
    have e : cellsT (h :: r) = h.cells ++ cellsT r := by simp [cellsT]
    rw [e]
    rcases i with _ | i
    · rw [List.getElem?_append_left (by simp [TH.cells]; omega)]
      rcases (by omega : j = 0 ∨ j = 1 ∨ j = 2 ∨ j = 3 ∨ j = 4) with rfl | rfl | rfl | rfl | rfl <;> rfl
    · rw [List.getElem?_append_right (by simp [TH.cells]; omega)]
      have e2 : (i + 1) * 5 + j - h.cells.length = i * 5 + j := by simp [TH.cells]; omega
      rw [e2, ih i (by simpa using hi)]
      simp

/-- A row of trees in new memory, from the block base on. -/
def OwnT (W : World) (base : Nat) (ty : TypeId) (v : Value) (hs : List TH) : Prop := W.ownsRow base ty 5 v hs.length (cellsT hs)
theorem OwnT.keep {W W' : World} {base : Nat} {ty : TypeId} {v : Value} {hs : List TH} (h : OwnT W base ty v hs) (hb : Below W.heap.size W W') : OwnT W' base ty v hs := by
  refine ⟨h.1, ?_⟩
  rcases h.2 with h1 | ⟨g, cap, cur, h1, h2, h3, h4⟩
  · exact .inl h1
  · have hlt : g < W.heap.size := by
      rcases Nat.lt_or_ge g W.heap.size with hlt | hge
      · exact hlt
      · rw [Array.getElem?_eq_none hge] at h3; cases h3
    exact .inr ⟨g, cap, cur, h1, h2, (hb.block g hlt).trans h3, h4⟩
theorem OwnT.weak {W : World} {base base' : Nat} {ty : TypeId} {v : Value} {hs : List TH} (h : OwnT W base ty v hs) (hb : base' ≤ base) : OwnT W base' ty v hs := by
  refine ⟨h.1, ?_⟩
  rcases h.2 with h1 | ⟨g, cap, cur, h1, h2, h3⟩
  · exact .inl h1
  · exact .inr ⟨g, cap, cur, h1, Nat.le_trans hb h2, h3⟩
theorem OwnT.nil (W : World) (base : Nat) (ty : TypeId) : OwnT W base ty (.slice none 0 0) [] := ⟨rfl, .inl ⟨rfl, rfl⟩⟩
/-- Its block, and its cells. -/
theorem OwnT.form {W : World} {base : Nat} {ty : TypeId} {v : Value} {hs : List TH} (h : OwnT W base ty v hs) : (v = .slice none 0 0 ∧ hs = []) ∨ ∃ g c, v = .slice (some ⟨g, 0, none⟩) hs.length c ∧ base ≤ g ∧ g < W.heap.size ∧ hs.length ≤ c ∧ c ≤ maxLen ∧ ∀ j u, (cellsT hs)[j]? = some u → W.cell? ⟨g, j, none⟩ = some u := by
  rcases h.2 with ⟨h1, h2⟩ | ⟨g, cap, cur, h1, h2, h3, h4, h5, h6, h7⟩
  · exact .inl ⟨h1, List.eq_nil_of_length_eq_zero h2⟩
  · right
    have hlt : g < W.heap.size := by
      rcases Nat.lt_or_ge g W.heap.size with hlt | hge
      · exact hlt
      · rw [Array.getElem?_eq_none hge] at h3; cases h3
    refine ⟨g, cap, h1, h2, hlt, h4, h5, fun j u hu => ?_⟩
    rw [cell_of_row W g j _ _ (0, 0) h3]
    rw [← h7, List.getElem?_take] at hu
    split at hu
    · simpa using hu
    · cases hu
/-- Where an append to a row of one's own puts it: where it was, or in the next new block. -/
theorem run_append_where {P : Program} (w : World) (base : Nat) (t ty e : TypeId) (i : TypeInfo) (z : Value) (size bytes : Nat) (ht : P.underlying t = some (.slice e)) (hi : P.info? e = some i) (hz : i.zero = some z)
    (hsize : i.size = size) (hby : i.bytes = bytes) (v : Value) (n : Nat) (xs : List Value) (hown : w.ownsRow base e size v n xs)
    (a : Addr) (m c : Nat) (news : List Value) (hl : news.length = m * size) (hnews : ∀ j u, news[j]? = some u → w.cell? (a.add j) = some u) (h1 : ∀ u ∈ news, u.oneCell' = true)
    (hzs : z.cells.size = size) (hsz : 0 < size) (hbase : base ≤ w.heap.size) (h63 : n + m ≤ maxLen) (hbytes : (n + m) * bytes ≤ 140737488355328) :
    ∃ v' w', (Builtin.append_ #[t, t] ty #[v, .slice (some a) m c]).run P w = .ok v' w' ∧ (v'.ownBlock = v.ownBlock ∨ v'.ownBlock = some w.heap.size) := by
  subst hsize
  subst hby
  simp only [maxLen] at h63
  rcases hown.2 with ⟨rfl, rfl⟩ | ⟨g, cap, cur, rfl, _, hg, _, _, hcs, _⟩
  · by_cases hm0 : 0 < m
    · exact ⟨_, _, run_append_nil (P := P) w t ty e i z ht hi hz a m c news hl hnews (by omega) (by omega) (by simp only [Nat.zero_add] at hbytes; omega), .inr rfl⟩
    · obtain ⟨v', w', hr, _, _, h4⟩ := run_append_own (P := P) w base t ty e i z i.size i.bytes ht hi hz rfl rfl hzs hsz (.slice none 0 0) 0 xs hown a m c news hl hnews h1 (by simp only [maxLen]; omega) hbytes hbase
      exact ⟨v', w', hr, .inl (by rw [h4.2 ⟨rfl, by omega⟩])⟩
  · by_cases hroom : n + m ≤ cap
    · exact ⟨_, _, run_append_room (P := P) w t ty e i ht hi g n cap cur hg a m c news hl hnews h1 hroom (by rw [hl, hcs, ← Nat.add_mul]; exact Nat.mul_le_mul_right _ hroom), .inl rfl⟩
    · exact ⟨_, _, run_append_grow (P := P) w t ty e i z ht hi hz ⟨g, 0, none⟩ n cap xs hown.1 (hown.cells (g := g) rfl) a m c news hl hnews (by omega) (by omega) (growslice_fits (by omega) hbytes), .inr rfl⟩
/-- append(a, b...), both rows of trees of one's own, at a step. -/
theorem wp_append_trees {P : Program} (w : World) {o : Oper} {a : Act} {K : Act → World → Prop} {Q : Exit → Act → World → Prop} (s x : Operand) (t : TypeId)
    (ho : o.op = .call { callee := .builtin .append, args := #[s, x], argTypes := #[t, t] })
    (base : Nat) (e : TypeId) (i : TypeInfo) (z : Value) (bytes : Nat) (ht : P.underlying t = some (.slice e)) (hi : P.info? e = some i) (hz : i.zero = some z)
    (hsize : i.size = 5) (hby : i.bytes = bytes) (hzs : z.cells.size = 5)
    (v : Value) (hs1 : List TH) (hs : a.eval s = v) (hown : OwnT w base e v hs1) (g c : Nat) (hs2 : List TH) (hx : a.eval x = .slice (some ⟨g, 0, none⟩) hs2.length c) (hcells : ∀ j u, (cellsT hs2)[j]? = some u → w.cell? ⟨g, j, none⟩ = some u)
    (hbytes : (hs1.length + hs2.length) * bytes ≤ 140737488355328) (hb0 : 0 < bytes) (hbase : base ≤ w.heap.size)
    (h : ∀ v' w', OwnT w' base e v' (hs1 ++ hs2) → w.grownBy w' v.ownBlock → (v'.ownBlock = v.ownBlock ∨ v'.ownBlock = some w.heap.size) → K (a.put o.dst v') w') : o.wp P a w K Q := by
  have hmax : hs1.length + hs2.length ≤ maxLen := by
    have : hs1.length + hs2.length ≤ (hs1.length + hs2.length) * bytes := Nat.le_mul_of_pos_right _ hb0
    simp only [maxLen]
    omega
  have hnews : ∀ j u, (cellsT hs2)[j]? = some u → w.cell? ((⟨g, 0, none⟩ : Addr).add j) = some u := fun j u hu => by
    have hp : (⟨g, 0, none⟩ : Addr).add j = ⟨g, j, none⟩ := by unfold Addr.add; split <;> simp_all
    rw [hp]
    exact hcells j u hu
  obtain ⟨v', w', hr, h2, h3, h4⟩ := run_append_own (P := P) w base t o.type e i z 5 bytes ht hi hz hsize hby hzs (by omega) v hs1.length (cellsT hs1) hown ⟨g, 0, none⟩ hs2.length c (cellsT hs2) (cellsT_len hs2) hnews (fun u hu => cellsT_one hu) hmax hbytes hbase
  obtain ⟨v2, w2, hr2, h5⟩ := run_append_where (P := P) w base t o.type e i z 5 bytes ht hi hz hsize hby v hs1.length (cellsT hs1) hown ⟨g, 0, none⟩ hs2.length c (cellsT hs2) (cellsT_len hs2) hnews (fun u hu => cellsT_one hu) hzs (by omega) hbase hmax hbytes
  rw [hr] at hr2
  injection hr2 with e1 e2
  subst e1 e2
  unfold Oper.wp execOp
  simp only [ho, resolve, invoke, builtin, Sem.run_bind, Sem.run_pure, Result.andThen_ok, List.map_toArray, List.map_cons, List.map_nil, hs, hx, hr]
  refine h v' w' ?_ h3 h5
  unfold OwnT
  rw [cellsT_app, List.length_append]
  exact h2
/-- append(a, b...), both rows of trees of one's own. -/
theorem wpList_append_trees {P : Program} (w : World) {ops : Array Oper} {rest : List Oper} {o : Oper} {a : Act} {Q : Exit → Act → World → Prop} (hgd : o.guard = none) (s x : Operand) (t : TypeId)
    (ho : o.op = .call { callee := .builtin .append, args := #[s, x], argTypes := #[t, t] })
    (base : Nat) (e : TypeId) (i : TypeInfo) (z : Value) (bytes : Nat) (ht : P.underlying t = some (.slice e)) (hi : P.info? e = some i) (hz : i.zero = some z)
    (hsize : i.size = 5) (hby : i.bytes = bytes) (hzs : z.cells.size = 5)
    (v : Value) (hs1 : List TH) (hs : a.eval s = v) (hown : OwnT w base e v hs1) (base2 : Nat) (v2 : Value) (hs2 : List TH) (hx : a.eval x = v2) (hown2 : OwnT w base2 e v2 hs2)
    (hbytes : (hs1.length + hs2.length) * bytes ≤ 140737488355328) (hb0 : 0 < bytes) (hbase : base ≤ w.heap.size)
    (h : ∀ v' w', OwnT w' base e v' (hs1 ++ hs2) → w.grownBy w' v.ownBlock → (v'.ownBlock = v.ownBlock ∨ v'.ownBlock = some w.heap.size) → wpList P ops Q rest (a.put o.dst v') w') : wpList P ops Q (o :: rest) a w := by
  rcases hown2.form with ⟨rfl, rfl⟩ | ⟨g, c, rfl, _, _, _, _, hcells⟩
  · refine wpList_append_own_none hgd s x t ho base e i 5 ht hi v hs1.length (cellsT hs1) hs hown hx ?_
    exact h v w (by simpa using hown) (only_refl w _) (.inl rfl)
  · refine wpList_plain hgd fun K hK => ?_
    exact wp_append_trees w s x t ho base e i z bytes ht hi hz hsize hby hzs v hs1 hs hown g c hs2 hx hcells hbytes hb0 hbase fun v' w' h1 h2 h3 => hK _ _ (h v' w' h1 h2 h3)
/-- A row of one tree, in a block of its own. -/
theorem OwnT.one {W : World} {ty : TypeId} {g base : Nat} {h : TH} (hb : Box W ty g h) (hg : base ≤ g) : OwnT W base ty (.slice (some ⟨g, 0, none⟩) 1 1) [h] :=
  ⟨by simp [cellsT, TH.cells], .inr ⟨g, 1, _, rfl, hg, hb, Nat.le_refl _, by simp [maxLen], rfl, rfl⟩⟩
/-- An empty row, in a block of its own. -/
theorem OwnT.empty (W : World) (ty : TypeId) (base : Nat) (hb : base ≤ W.heap.size) : OwnT (W.alloc (.cells #[] ty)) base ty (.slice (some ⟨W.heap.size, 0, none⟩) 0 0) [] :=
  ⟨rfl, .inr ⟨W.heap.size, 0, _, rfl, hb, heap_alloc_new W _, Nat.le_refl _, Nat.zero_le _, rfl, rfl⟩⟩
/-- A tree is stored at the end of a row of one's own, at a step. -/
theorem wp_store_last {P : Program} (w : World) {o : Oper} {a : Act} {K : Act → World → Prop} {Q : Exit → Act → World → Prop} (ty : TypeId) (x y : Operand) (ho : o.op = .store ty x y)
    (base : Nat) (e : TypeId) (g n c : Nat) (hs : List TH) (z h : TH) (hn : hs.length = n) (hown : OwnT w base e (.slice (some ⟨g, 0, none⟩) (n + 1) c) (hs ++ [z]))
    (hx : a.eval x = .pointer (some ⟨g, n * 5, none⟩)) (hy : a.eval y = h.v) (hi : (P.info? ty).map (·.size) = some 5)
    (hK : ∀ w', OwnT w' base e (.slice (some ⟨g, 0, none⟩) (n + 1) c) (hs ++ [h]) → w.grownBy w' (some g) → K (a.put o.dst undef) w') : o.wp P a w K Q := by
  have hlen : (hs ++ [z]).length = n + 1 := by simp [hn]
  have hlen2 : (hs ++ [h]).length = n + 1 := by simp [hn]
  unfold OwnT at hown
  rw [hlen] at hown
  rcases hown.2 with ⟨h1, _⟩ | ⟨g', cap, cur, h1, h2, h3, h4, h5, h6, h7⟩
  · cases h1
  · injection h1 with h1 _ h1c
    injection h1 with h1
    injection h1 with h1
    subst h1
    subst h1c
    have hl5 : h.cells.length = 5 := rfl
    have hcl := cellsT_len hs
    rw [hn] at hcl
    have hfit : n * 5 + 0 + h.cells.length ≤ cur.size := by rw [h6, hl5]; omega
    have hst := run_storeCells_at P g (n * 5) e h.cells 0 cur w h3 hfit (fun u hu => cellsT_one (hs := [h]) (by simpa [cellsT] using hu))
    cases hq : P.info? ty with
    | none => simp [hq] at hi
    | some i =>
      have hsz : i.size = 5 := by simp [hq] at hi; omega
      have hrun : (storeVar ty ⟨g, n * 5, none⟩ h.v).run P w = .ok () (w.setRow g (cur.toList.take (n * 5 + 0) ++ h.cells ++ cur.toList.drop (n * 5 + 0 + h.cells.length)).toArray) := by
        rw [← hst]
        simp [storeVar, sizeOf, typeInfo, hq, Value.cells, hsz, TH.v, TH.cells]
      unfold Oper.wp execOp
      simp only [ho, hx, hy, Instr.storeAt, Instr.sureAddr, Sem.run_bind, Sem.run_pure, Result.andThen_ok, hrun]
      refine hK _ ?_ ⟨rfl, rfl, rfl, by simp, fun j _ hne => setRow_other w g j _ (fun e => hne (by rw [e]))⟩
      have ht : cur.toList.take (n * 5) = cellsT hs := by
        have e1 : (cur.toList.take ((n + 1) * 5)).take (n * 5) = cur.toList.take (n * 5) := by rw [List.take_take]; congr 1; omega
        rw [← e1, h7, cellsT_app, ← hcl, List.take_left]
      unfold OwnT
      rw [hlen2]
      refine ⟨by rw [cellsT_len, hlen2], .inr ⟨g, c, _, rfl, h2, setRow_heap w g cur _ e _ h3, h4, h5, ?_, ?_⟩⟩
      · simp only [List.size_toArray, List.length_append, List.length_take, List.length_drop, Array.length_toList, hl5]
        omega
      · have ht0 : cur.toList.take (n * 5 + 0) = cellsT hs := ht
        rw [ht0, cellsT_app]
        have e2 : cellsT [h] = h.cells := by simp [cellsT]
        rw [e2]
        have e3 : (cellsT hs ++ h.cells).length = (n + 1) * 5 := by rw [List.length_append, hcl, hl5]; omega
        rw [← e3]
        exact List.take_left
theorem step_store_last {P : Program} (w : World) {ops : Array Oper} {o : Oper} {a : Act} {K : Act → World → Prop} {Q : Exit → Act → World → Prop} {E : Prop} (hgd : o.guard = none) (ty : TypeId) (x y : Operand) (ho : o.op = .store ty x y)
    (base : Nat) (e : TypeId) (g n c : Nat) (hs : List TH) (z h : TH) (hn : hs.length = n) (hown : OwnT w base e (.slice (some ⟨g, 0, none⟩) (n + 1) c) (hs ++ [z]))
    (hx : a.eval x = .pointer (some ⟨g, n * 5, none⟩)) (hy : a.eval y = h.v) (hi : (P.info? ty).map (·.size) = some 5)
    (hK : ∀ w', OwnT w' base e (.slice (some ⟨g, 0, none⟩) (n + 1) c) (hs ++ [h]) → w.grownBy w' (some g) → K (a.put o.dst undef) w') : if Region.wanted o (yielded ops a.tmps) = true then Oper.wp P o a w K Q else E := by
  have hw : Region.wanted o (yielded ops a.tmps) = true := by simp [Region.wanted, hgd]
  rw [if_pos hw]
  exact wp_store_last w ty x y ho base e g n c hs z h hn hown hx hy hi hK
theorem step_append_trees {P : Program} (w : World) {ops : Array Oper} {o : Oper} {a : Act} {K : Act → World → Prop} {Q : Exit → Act → World → Prop} {E : Prop} (hgd : o.guard = none) (s x : Operand) (t : TypeId)
    (ho : o.op = .call { callee := .builtin .append, args := #[s, x], argTypes := #[t, t] })
    (base : Nat) (e : TypeId) (i : TypeInfo) (z : Value) (bytes : Nat) (ht : P.underlying t = some (.slice e)) (hi : P.info? e = some i) (hz : i.zero = some z)
    (hsize : i.size = 5) (hby : i.bytes = bytes) (hzs : z.cells.size = 5)
    (v : Value) (hs1 : List TH) (hs : a.eval s = v) (hown : OwnT w base e v hs1) (g c : Nat) (hs2 : List TH) (hx : a.eval x = .slice (some ⟨g, 0, none⟩) hs2.length c) (hcells : ∀ j u, (cellsT hs2)[j]? = some u → w.cell? ⟨g, j, none⟩ = some u)
    (hbytes : (hs1.length + hs2.length) * bytes ≤ 140737488355328) (hb0 : 0 < bytes) (hbase : base ≤ w.heap.size)
    (h : ∀ v' w', OwnT w' base e v' (hs1 ++ hs2) → w.grownBy w' v.ownBlock → (v'.ownBlock = v.ownBlock ∨ v'.ownBlock = some w.heap.size) → K (a.put o.dst v') w') : if Region.wanted o (yielded ops a.tmps) = true then Oper.wp P o a w K Q else E := by
  have hw : Region.wanted o (yielded ops a.tmps) = true := by simp [Region.wanted, hgd]
  rw [if_pos hw]
  exact wp_append_trees w s x t ho base e i z bytes ht hi hz hsize hby hzs v hs1 hs hown g c hs2 hx hcells hbytes hb0 hbase h
/-- The cells of a box, as a row of one. -/
theorem Box.row {W : World} {ty : TypeId} {g : Nat} {h : TH} (hb : Box W ty g h) : ∀ j u, (cellsT [h])[j]? = some u → W.cell? ⟨g, j, none⟩ = some u := by
  intro j u hu
  rw [cell_of_row W g j _ _ (0, 0) hb]
  have e2 : cellsT [h] = h.cells := by simp [cellsT]
  rw [e2] at hu
  simpa [TH.cells] using hu
/-- Heads and trees, side by side. -/
def Heads (w : World) (hs : List TH) (ts : List Tr) : Prop := hs.length = ts.length ∧ ∀ i (h1 : i < hs.length) (h2 : i < ts.length), InTree w hs[i] ts[i]
theorem Heads.nil (w : World) : Heads w [] [] := ⟨rfl, fun i h1 => by simp at h1⟩
theorem Heads.app {w : World} {a b : List TH} {s t : List Tr} (h : Heads w a s) (h' : Heads w b t) : Heads w (a ++ b) (s ++ t) := by
  refine ⟨by simp [h.1, h'.1], fun i h1 h2 => ?_⟩
  by_cases hi : i < a.length
  · rw [List.getElem_append_left hi, List.getElem_append_left (by rw [← h.1]; exact hi)]
    exact h.2 i hi _
  · have e1 : (a ++ b)[i] = b[i - a.length]'(by rw [List.length_append] at h1; omega) := List.getElem_append_right (by omega)
    have e2 : (s ++ t)[i] = t[i - s.length]'(by rw [List.length_append] at h2; have := h.1; omega) := List.getElem_append_right (by have := h.1; omega)
    rw [e1, e2]
    have e3 : i - s.length = i - a.length := by rw [h.1]
    simp only [e3]
    exact h'.2 _ _ _
theorem Heads.one {w : World} {h : TH} {t : Tr} (ht : InTree w h t) : Heads w [h] [t] := ⟨rfl, fun i h1 h2 => by
  have h0 : i = 0 := by simpa using h1
  subst h0
  exact ht⟩
theorem Var1.ne {w : World} {ty ty' : TypeId} {g g' : Nat} {v v' : Value} (h : Var1 w ty g v) (h' : Var1 w ty' g' v') (hne : ty ≠ ty') : g ≠ g' := by
  rintro rfl
  unfold Var1 at h h'
  rw [h] at h'
  injection h' with h'
  injection h' with _ h' _
  exact hne h'
theorem Box.neV {w : World} {ty ty' : TypeId} {g g' : Nat} {h0 : TH} {v' : Value} (h : Box w ty g h0) (h' : Var1 w ty' g' v') (hne : ty ≠ ty') : g ≠ g' := by
  rintro rfl
  unfold Box at h
  unfold Var1 at h'
  rw [h] at h'
  injection h' with h'
  injection h' with _ h' _
  exact hne h'
theorem OwnT.neV {w : World} {base : Nat} {ty ty' : TypeId} {g' : Nat} {v v' : Value} {hs : List TH} (h : OwnT w base ty v hs) (h' : Var1 w ty' g' v') (hne : ty ≠ ty') : some g' ≠ v.ownBlock := by
  rcases h.2 with ⟨h1, _⟩ | ⟨g, cap, cur, h1, h2, h3, _⟩
  · rw [h1]
    intro q
    cases q
  · rw [h1]
    intro q
    have q' : g' = g := Option.some.inj q
    subst q'
    unfold Var1 at h'
    rw [h3] at h'
    injection h' with h'
    injection h' with _ h' _
    exact hne h'
/-- Its form. -/
theorem OwnT.sl {W : World} {base : Nat} {ty : TypeId} {v : Value} {hs : List TH} (h : OwnT W base ty v hs) : ∃ a c, v = .slice a hs.length c := by
  rcases h.form with ⟨h1, h2⟩ | ⟨g, c, h1, _⟩
  · exact ⟨none, 0, by rw [h1, h2]; rfl⟩
  · exact ⟨_, c, h1⟩
theorem OwnT.far {W : World} {base : Nat} {ty : TypeId} {v : Value} {hs : List TH} (h : OwnT W base ty v hs) {p : Addr} (hp : some p.block ≠ v.ownBlock) (u : Value) : OwnT (W.setCell p u) base ty v hs := by
  refine ⟨h.1, ?_⟩
  rcases h.2 with h1 | ⟨g, cap, cur, h1, h2, h3, h4⟩
  · exact .inl h1
  · refine .inr ⟨g, cap, cur, h1, h2, ?_, h4⟩
    rw [Below.heap_setCell W p u g (fun e => hp (by rw [h1, ← e]; rfl))]
    exact h3
/-- The empty tree's head. -/
def hZ : TH := ⟨0, none, 0, 0, none, 0, 0, none, 0, 0, none, 0, 0⟩
end Go.Proofs.YtlbiefddcimdgaaDoor

/- Rows of records in one's own memory, and as arguments. No program is named here. -/
namespace Go.Proofs.YtlbiefddcimdgaaDoor
open Go.ChangeShapes Go.WideShapes Go.RowKit Go.Deep
set_option linter.unusedVariables false

/-- A kind of record: its cells. -/
structure Rec (R : Type) where
  cells : R → List Value
  sz : Nat
  pos : 0 < sz
  len : ∀ r, (cells r).length = sz
  one : ∀ r u, u ∈ cells r → u.oneCell' = true
section
variable {R : Type}
/-- The cells of records, one behind the other. -/
def Rec.row (c : Rec R) (rs : List R) : List Value := rs.flatMap c.cells
theorem Rec.row_len (c : Rec R) (rs : List R) : (c.row rs).length = rs.length * c.sz := by
  unfold Rec.row
  induction rs with
  | nil => simp
  | cons h r ih =>
    rw [List.flatMap_cons, List.length_append, ih, c.len, List.length_cons, Nat.succ_mul]
    omega
theorem Rec.row_app (c : Rec R) (a b : List R) : c.row (a ++ b) = c.row a ++ c.row b := by simp [Rec.row]
theorem Rec.row_single (c : Rec R) (a : R) : c.row [a] = c.cells a := by simp [Rec.row]
theorem Rec.row_one (c : Rec R) {rs : List R} {u : Value} (h : u ∈ c.row rs) : u.oneCell' = true := by
  unfold Rec.row at h
  rw [List.mem_flatMap] at h
  obtain ⟨x, _, hx⟩ := h
  exact c.one x u hx
theorem Rec.row_get (c : Rec R) (rs : List R) (i j : Nat) (hi : i < rs.length) (hj : j < c.sz) : (c.row rs)[i * c.sz + j]? = (c.cells rs[i])[j]? := by
  induction rs generalizing i with
  | nil => simp at hi
  | cons h r ih =>
    have e : c.row (h :: r) = c.cells h ++ c.row r := by simp [Rec.row]
    rw [e]
    rcases i with _ | i
    · rw [List.getElem?_append_left (by rw [c.len]; omega), Nat.zero_mul, Nat.zero_add]
      rfl
    · rw [List.getElem?_append_right (by rw [c.len, Nat.succ_mul]; omega)]
      have e2 : (i + 1) * c.sz + j - (c.cells h).length = i * c.sz + j := by rw [c.len, Nat.succ_mul]; omega
      rw [e2, ih i (by simpa using hi)]
      simp

/-- A row of records in new memory, from the block base on. -/
def OwnR (c : Rec R) (W : World) (base : Nat) (ty : TypeId) (v : Value) (rs : List R) : Prop := W.ownsRow base ty c.sz v rs.length (c.row rs)
variable {c : Rec R} {W W' : World} {base base' : Nat} {ty : TypeId} {v : Value} {rs : List R}
theorem OwnR.grown (h : OwnR c W base ty v rs) {row : Option Nat} (hg : W.grownBy W' row) (hne : v.ownBlock = none ∨ v.ownBlock ≠ row) : OwnR c W' base ty v rs := World.ownsRow.kept h hg hne
theorem OwnR.keep (h : OwnR c W base ty v rs) (hb : Below W.heap.size W W') : OwnR c W' base ty v rs :=
  h.grown (only_below hb none) (by by_cases h : v.ownBlock = none; exact .inl h; exact .inr h)
theorem OwnR.weak (h : OwnR c W base ty v rs) (hb : base' ≤ base) : OwnR c W base' ty v rs := by
  refine ⟨h.1, ?_⟩
  rcases h.2 with h1 | ⟨g, cap, cur, h1, h2, h3⟩
  · exact .inl h1
  · exact .inr ⟨g, cap, cur, h1, Nat.le_trans hb h2, h3⟩
theorem OwnR.nil (c : Rec R) (W : World) (base : Nat) (ty : TypeId) : OwnR c W base ty (.slice none 0 0) [] := ⟨by simp [Rec.row], .inl ⟨rfl, rfl⟩⟩
/-- Its block, and its cells. -/
theorem OwnR.form (h : OwnR c W base ty v rs) : (v = .slice none 0 0 ∧ rs = []) ∨ ∃ g k, v = .slice (some ⟨g, 0, none⟩) rs.length k ∧ base ≤ g ∧ g < W.heap.size ∧ rs.length ≤ k ∧ k ≤ maxLen ∧ ∀ j u, (c.row rs)[j]? = some u → W.cell? ⟨g, j, none⟩ = some u := by
  rcases h.2 with ⟨h1, h2⟩ | ⟨g, cap, cur, h1, h2, h3, h4, h5, h6, h7⟩
  · exact .inl ⟨h1, List.eq_nil_of_length_eq_zero h2⟩
  · right
    have hlt : g < W.heap.size := by
      rcases Nat.lt_or_ge g W.heap.size with hlt | hge
      · exact hlt
      · rw [Array.getElem?_eq_none hge] at h3; cases h3
    refine ⟨g, cap, h1, h2, hlt, h4, h5, fun j u hu => ?_⟩
    rw [cell_of_row W g j _ _ (0, 0) h3]
    rw [← h7, List.getElem?_take] at hu
    split at hu
    · simpa using hu
    · cases hu
theorem OwnR.sl (h : OwnR c W base ty v rs) : ∃ a k, v = .slice a rs.length k := by
  rcases h.form with ⟨h1, h2⟩ | ⟨g, k, h1, _⟩
  · exact ⟨none, 0, by rw [h1, h2]; rfl⟩
  · exact ⟨_, k, h1⟩
theorem OwnR.base_le (h : OwnR c W base ty v rs) {g : Nat} (hg : v.ownBlock = some g) : base ≤ g ∧ g < W.heap.size := by
  rcases h.form with ⟨h1, _⟩ | ⟨g', k, h1, h2, h3, _⟩
  · rw [h1] at hg; cases hg
  · rw [h1] at hg
    have e : g' = g := Option.some.inj hg
    subst e
    exact ⟨h2, h3⟩
/-- The cells of the i-th record. -/
theorem OwnR.at {a : Option Addr} {n k : Nat} (h : OwnR c W base ty (.slice a n k) rs) (i : Nat) (hi : i < rs.length) : ∃ g, a = some ⟨g, 0, none⟩ ∧ ∀ j u, (c.cells rs[i])[j]? = some u → W.cell? ⟨g, i * c.sz + j, none⟩ = some u := by
  rcases h.form with ⟨_, h2⟩ | ⟨g, k', h1, _, _, _, _, hc⟩
  · rw [h2] at hi
    simp at hi
  · injection h1 with h1
    refine ⟨g, h1, fun j u hu => ?_⟩
    have hj : j < c.sz := by rw [← c.len rs[i]]; exact (List.getElem?_eq_some_iff.1 hu).1
    exact hc _ _ (by rw [c.row_get rs i j hi hj]; exact hu)

/-- All cells of a row's block, the spare ones too. -/
def AllP (q : Value → Prop) (W : World) (v : Value) : Prop := ∀ g, v.ownBlock = some g → ∀ j u, W.cell? ⟨g, j, none⟩ = some u → q u
theorem zero_mem {z : Array Value} {n : Nat} {u : Value} (h : u ∈ Builtin.zeroCells z n) : u ∈ z := by
  unfold Builtin.zeroCells at h
  rw [Array.mem_map] at h
  obtain ⟨i, hi, rfl⟩ := h
  have hi' : i < n * z.size := by simpa using hi
  have hz : 0 < z.size := by
    rcases Nat.eq_zero_or_pos z.size with h0 | h0
    · rw [h0] at hi'; omega
    · exact h0
  have hm : i % z.size < z.size := Nat.mod_lt _ hz
  rw [getElem!_pos z (i % z.size) hm]
  exact Array.getElem_mem hm
theorem cell_mem {g : Nat} {cs : Array Value} {fr : Nat × Nat} {j : Nat} {u : Value} (h : W.heap[g]? = some (.cells cs ty fr)) (hu : W.cell? ⟨g, j, none⟩ = some u) : u ∈ cs := by
  rw [cell_of_row W g j _ _ fr h] at hu
  exact Array.mem_of_getElem? hu
/-- Where an append to a row of one's own puts it, and what is in its block. -/
theorem run_append_all {P : Program} (w : World) (base : Nat) (t ty e : TypeId) (i : TypeInfo) (z : Value) (size bytes : Nat) (ht : P.underlying t = some (.slice e)) (hi : P.info? e = some i) (hz : i.zero = some z)
    (hsize : i.size = size) (hby : i.bytes = bytes) (v : Value) (n : Nat) (xs : List Value) (hown : w.ownsRow base e size v n xs)
    (a : Addr) (m c : Nat) (news : List Value) (hl : news.length = m * size) (hnews : ∀ j u, news[j]? = some u → w.cell? (a.add j) = some u) (h1 : ∀ u ∈ news, u.oneCell' = true)
    (hm : 0 < m) (h63 : n + m ≤ maxLen) (hbytes : (n + m) * bytes ≤ 140737488355328) :
    ∃ v' w', (Builtin.append_ #[t, t] ty #[v, .slice (some a) m c]).run P w = .ok v' w' ∧ (v'.ownBlock = v.ownBlock ∨ v'.ownBlock = some w.heap.size) ∧
      ∀ q : Value → Prop, AllP q w v → (∀ u ∈ news, q u) → (∀ u ∈ z.cells, q u) → AllP q w' v' := by
  subst hsize
  subst hby
  simp only [maxLen] at h63
  rcases hown.2 with ⟨rfl, rfl⟩ | ⟨g, cap, cur, rfl, _, hg, _, _, hcs, htk⟩
  · refine ⟨_, _, run_append_nil (P := P) w t ty e i z ht hi hz a m c news hl hnews hm (by omega) (by simp only [Nat.zero_add] at hbytes; omega), .inr rfl, fun q _ hn hzq g' hg' j u hu => ?_⟩
    have e1 : w.heap.size = g' := Option.some.inj hg'
    subst e1
    have := cell_mem (heap_alloc_new w.drew _) hu
    rcases Array.mem_append.1 this with q1 | q1
    · exact hn u (by simpa using q1)
    · exact hzq u (zero_mem q1)
  · by_cases hroom : n + m ≤ cap
    · refine ⟨_, _, run_append_room (P := P) w t ty e i ht hi g n cap cur hg a m c news hl hnews h1 hroom (by rw [hl, hcs, ← Nat.add_mul]; exact Nat.mul_le_mul_right _ hroom), .inl rfl, fun q ha hn _ g' hg' j u hu => ?_⟩
      have e1 : g = g' := Option.some.inj hg'
      subst e1
      have hq : ∀ x ∈ cur, q x := fun x hx => by
        obtain ⟨k, hk, e⟩ := Array.getElem_of_mem hx
        exact ha g rfl k x (by rw [cell_of_row w g k _ _ (0, 0) hg, Array.getElem?_eq_getElem hk, e])
      have := cell_mem (setRow_heap w g cur _ e _ hg) hu
      simp only [List.mem_toArray, List.mem_append] at this
      rcases this with (q1 | q1) | q1
      · exact hq u (by simpa using List.mem_of_mem_take q1)
      · exact hn u q1
      · exact hq u (by simpa using List.mem_of_mem_drop q1)
    · refine ⟨_, _, run_append_grow (P := P) w t ty e i z ht hi hz ⟨g, 0, none⟩ n cap xs hown.1 (hown.cells (g := g) rfl) a m c news hl hnews (by omega) (by omega) (growslice_fits (by omega) hbytes), .inr rfl, fun q ha hn hzq g' hg' j u hu => ?_⟩
      have e1 : w.heap.size = g' := Option.some.inj hg'
      subst e1
      have hq : ∀ x ∈ cur, q x := fun x hx => by
        obtain ⟨k, hk, e⟩ := Array.getElem_of_mem hx
        exact ha g rfl k x (by rw [cell_of_row w g k _ _ (0, 0) hg, Array.getElem?_eq_getElem hk, e])
      have := cell_mem (heap_alloc_new w.drew _) hu
      rcases Array.mem_append.1 this with q1 | q1
      · rcases Array.mem_append.1 q1 with q2 | q2
        · refine hq u ?_
          have q3 : u ∈ xs := by simpa using q2
          rw [← htk] at q3
          simpa using List.mem_of_mem_take q3
        · exact hn u (by simpa using q2)
      · exact hzq u (zero_mem q1)
/-- append(a, r), of one record r that lies in a block g, to a row of one's own, at a step. -/
theorem wp_append_rec {P : Program} (w : World) {o : Oper} {a : Act} {K : Act → World → Prop} {Q : Exit → Act → World → Prop} (s x : Operand) (t : TypeId)
    (ho : o.op = .call { callee := .builtin .append, args := #[s, x], argTypes := #[t, t] }) (c : Rec R)
    (base : Nat) (e : TypeId) (i : TypeInfo) (z : Value) (bytes : Nat) (ht : P.underlying t = some (.slice e)) (hi : P.info? e = some i) (hz : i.zero = some z)
    (hsize : i.size = c.sz) (hby : i.bytes = bytes) (hzs : z.cells.size = c.sz)
    (v : Value) (rs : List R) (hs : a.eval s = v) (hown : OwnR c w base e v rs) (g k : Nat) (r : R) (hx : a.eval x = .slice (some ⟨g, 0, none⟩) 1 k) (hcells : ∀ j u, (c.cells r)[j]? = some u → w.cell? ⟨g, j, none⟩ = some u)
    (hbytes : (rs.length + 1) * bytes ≤ 140737488355328) (hb0 : 0 < bytes) (hbase : base ≤ w.heap.size)
    (h : ∀ v' w', OwnR c w' base e v' (rs ++ [r]) → w.grownBy w' v.ownBlock → (v'.ownBlock = v.ownBlock ∨ v'.ownBlock = some w.heap.size) → (∀ q : Value → Prop, AllP q w v → (∀ u ∈ c.cells r, q u) → (∀ u ∈ z.cells, q u) → AllP q w' v') → K (a.put o.dst v') w') : o.wp P a w K Q := by
  have hmax : rs.length + 1 ≤ maxLen := by
    have : rs.length + 1 ≤ (rs.length + 1) * bytes := Nat.le_mul_of_pos_right _ hb0
    simp only [maxLen]
    omega
  have hnews : ∀ j u, (c.cells r)[j]? = some u → w.cell? ((⟨g, 0, none⟩ : Addr).add j) = some u := fun j u hu => by
    have hp : (⟨g, 0, none⟩ : Addr).add j = ⟨g, j, none⟩ := by unfold Addr.add; split <;> simp_all
    rw [hp]
    exact hcells j u hu
  obtain ⟨v', w', hr, h2, h3, h4⟩ := run_append_own (P := P) w base t o.type e i z c.sz bytes ht hi hz hsize hby hzs c.pos v rs.length (c.row rs) hown ⟨g, 0, none⟩ 1 k (c.cells r) (by rw [c.len, Nat.one_mul]) hnews (fun u hu => c.one r u hu) hmax hbytes hbase
  obtain ⟨v2, w2, hr2, h5, h6⟩ := run_append_all (P := P) w base t o.type e i z c.sz bytes ht hi hz hsize hby v rs.length (c.row rs) hown ⟨g, 0, none⟩ 1 k (c.cells r) (by rw [c.len, Nat.one_mul]) hnews (fun u hu => c.one r u hu) (by omega) hmax hbytes
  rw [hr] at hr2
  injection hr2 with e1 e2
  subst e1 e2
  unfold Oper.wp execOp
  simp only [ho, resolve, invoke, builtin, Sem.run_bind, Sem.run_pure, Result.andThen_ok, List.map_toArray, List.map_cons, List.map_nil, hs, hx, hr]
  refine h v' w' ?_ h3 h5 h6
  unfold OwnR
  rw [c.row_app, c.row_single, List.length_append]
  exact h2
/-- append(a, r), of one record r that lies in a block g, to a row of one's own. -/
theorem wpList_append_rec {P : Program} (w : World) {ops : Array Oper} {rest : List Oper} {o : Oper} {a : Act} {Q : Exit → Act → World → Prop} (hgd : o.guard = none) (s x : Operand) (t : TypeId)
    (ho : o.op = .call { callee := .builtin .append, args := #[s, x], argTypes := #[t, t] }) (c : Rec R)
    (base : Nat) (e : TypeId) (i : TypeInfo) (z : Value) (bytes : Nat) (ht : P.underlying t = some (.slice e)) (hi : P.info? e = some i) (hz : i.zero = some z)
    (hsize : i.size = c.sz) (hby : i.bytes = bytes) (hzs : z.cells.size = c.sz)
    (v : Value) (rs : List R) (hs : a.eval s = v) (hown : OwnR c w base e v rs) (g k : Nat) (r : R) (hx : a.eval x = .slice (some ⟨g, 0, none⟩) 1 k) (hcells : ∀ j u, (c.cells r)[j]? = some u → w.cell? ⟨g, j, none⟩ = some u)
    (hbytes : (rs.length + 1) * bytes ≤ 140737488355328) (hb0 : 0 < bytes) (hbase : base ≤ w.heap.size)
    (h : ∀ v' w', OwnR c w' base e v' (rs ++ [r]) → w.grownBy w' v.ownBlock → (v'.ownBlock = v.ownBlock ∨ v'.ownBlock = some w.heap.size) → (∀ q : Value → Prop, AllP q w v → (∀ u ∈ c.cells r, q u) → (∀ u ∈ z.cells, q u) → AllP q w' v') → wpList P ops Q rest (a.put o.dst v') w') : wpList P ops Q (o :: rest) a w :=
  wpList_plain hgd fun K hK => wp_append_rec w s x t ho c base e i z bytes ht hi hz hsize hby hzs v rs hs hown g k r hx hcells hbytes hb0 hbase fun v' w' h1 h2 h3 h4 => hK _ _ (h v' w' h1 h2 h3 h4)
theorem step_append_rec {P : Program} (w : World) {ops : Array Oper} {o : Oper} {a : Act} {K : Act → World → Prop} {Q : Exit → Act → World → Prop} {E : Prop} (hgd : o.guard = none) (s x : Operand) (t : TypeId)
    (ho : o.op = .call { callee := .builtin .append, args := #[s, x], argTypes := #[t, t] }) (c : Rec R)
    (base : Nat) (e : TypeId) (i : TypeInfo) (z : Value) (bytes : Nat) (ht : P.underlying t = some (.slice e)) (hi : P.info? e = some i) (hz : i.zero = some z)
    (hsize : i.size = c.sz) (hby : i.bytes = bytes) (hzs : z.cells.size = c.sz)
    (v : Value) (rs : List R) (hs : a.eval s = v) (hown : OwnR c w base e v rs) (g k : Nat) (r : R) (hx : a.eval x = .slice (some ⟨g, 0, none⟩) 1 k) (hcells : ∀ j u, (c.cells r)[j]? = some u → w.cell? ⟨g, j, none⟩ = some u)
    (hbytes : (rs.length + 1) * bytes ≤ 140737488355328) (hb0 : 0 < bytes) (hbase : base ≤ w.heap.size)
    (h : ∀ v' w', OwnR c w' base e v' (rs ++ [r]) → w.grownBy w' v.ownBlock → (v'.ownBlock = v.ownBlock ∨ v'.ownBlock = some w.heap.size) → (∀ q : Value → Prop, AllP q w v → (∀ u ∈ c.cells r, q u) → (∀ u ∈ z.cells, q u) → AllP q w' v') → K (a.put o.dst v') w') : if Region.wanted o (yielded ops a.tmps) = true then Oper.wp P o a w K Q else E := by
  have hw : Region.wanted o (yielded ops a.tmps) = true := by simp [Region.wanted, hgd]
  rw [if_pos hw]
  exact wp_append_rec w s x t ho c base e i z bytes ht hi hz hsize hby hzs v rs hs hown g k r hx hcells hbytes hb0 hbase h

/-- append(a, b...), both rows of records of one's own. -/
theorem wpList_append_recs {P : Program} (w : World) {ops : Array Oper} {rest : List Oper} {o : Oper} {a : Act} {Q : Exit → Act → World → Prop} (hgd : o.guard = none) (s x : Operand) (t : TypeId)
    (ho : o.op = .call { callee := .builtin .append, args := #[s, x], argTypes := #[t, t] }) (c : Rec R)
    (base : Nat) (e : TypeId) (i : TypeInfo) (z : Value) (bytes : Nat) (ht : P.underlying t = some (.slice e)) (hi : P.info? e = some i) (hz : i.zero = some z)
    (hsize : i.size = c.sz) (hby : i.bytes = bytes) (hzs : z.cells.size = c.sz)
    (v : Value) (rs : List R) (hs : a.eval s = v) (hown : OwnR c w base e v rs) (base2 : Nat) (v2 : Value) (rs2 : List R) (hx : a.eval x = v2) (hown2 : OwnR c w base2 e v2 rs2)
    (hbytes : (rs.length + rs2.length) * bytes ≤ 140737488355328) (hb0 : 0 < bytes) (hbase : base ≤ w.heap.size)
    (h : ∀ v' w', OwnR c w' base e v' (rs ++ rs2) → w.grownBy w' v.ownBlock → wpList P ops Q rest (a.put o.dst v') w') : wpList P ops Q (o :: rest) a w := by
  rcases hown2.form with ⟨rfl, rfl⟩ | ⟨g, k, rfl, _, _, _, _, hcells⟩
  · refine wpList_append_own_none hgd s x t ho base e i c.sz ht hi v rs.length (c.row rs) hs hown hx ?_
    exact h v w (by simpa using hown) (only_refl w _)
  · have hmax : rs.length + rs2.length ≤ maxLen := by
      have : rs.length + rs2.length ≤ (rs.length + rs2.length) * bytes := Nat.le_mul_of_pos_right _ hb0
      simp only [maxLen]
      omega
    have hnews : ∀ j u, (c.row rs2)[j]? = some u → w.cell? ((⟨g, 0, none⟩ : Addr).add j) = some u := fun j u hu => by
      have hp : (⟨g, 0, none⟩ : Addr).add j = ⟨g, j, none⟩ := by unfold Addr.add; split <;> simp_all
      rw [hp]
      exact hcells j u hu
    obtain ⟨v', w', hr, h2, h3, h4⟩ := run_append_own (P := P) w base t o.type e i z c.sz bytes ht hi hz hsize hby hzs c.pos v rs.length (c.row rs) hown ⟨g, 0, none⟩ rs2.length k (c.row rs2) (c.row_len rs2) hnews (fun u hu => c.row_one hu) hmax hbytes hbase
    refine wpList_plain hgd fun K hK => ?_
    unfold Oper.wp execOp
    simp only [ho, resolve, invoke, builtin, Sem.run_bind, Sem.run_pure, Result.andThen_ok, List.map_toArray, List.map_cons, List.map_nil, hs, hx, hr]
    refine hK _ _ (h v' w' ?_ h3)
    unfold OwnR
    rw [c.row_app, List.length_append]
    exact h2
/-- An empty row, in a block of its own. -/
theorem OwnR.empty (c : Rec R) (W : World) (ty : TypeId) (base : Nat) (hb : base ≤ W.heap.size) : OwnR c (W.alloc (.cells #[] ty)) base ty (.slice (some ⟨W.heap.size, 0, none⟩) 0 0) [] :=
  ⟨by simp [Rec.row], .inr ⟨W.heap.size, 0, _, rfl, hb, heap_alloc_new W _, Nat.le_refl _, Nat.zero_le _, by simp, by simp [Rec.row]⟩⟩

/-- Block g holds a record's cells. -/
def RBox (c : Rec R) (W : World) (ty : TypeId) (g : Nat) (r : R) : Prop := W.heap[g]? = some (.cells (c.cells r).toArray ty (0, 0))
variable {g : Nat} {r : R}
theorem RBox.lt (h : RBox c W ty g r) : g < W.heap.size := by
  rcases Nat.lt_or_ge g W.heap.size with hlt | hge
  · exact hlt
  · unfold RBox at h; rw [Array.getElem?_eq_none hge] at h; cases h
theorem RBox.below {B : Nat} (h : RBox c W ty g r) (hb : Below B W W') (hg : g < B) : RBox c W' ty g r := (hb.block g hg).trans h
theorem RBox.grown {row : Option Nat} (h : RBox c W ty g r) (hg : W.grownBy W' row) (hne : some g ≠ row) : RBox c W' ty g r := (hg.block g h.lt hne).trans h
theorem RBox.cell (h : RBox c W ty g r) (j : Nat) (u : Value) (hu : (c.cells r)[j]? = some u) : W.cell? ⟨g, j, none⟩ = some u := by
  rw [cell_of_row W g j _ _ (0, 0) h]
  simpa using hu
/-- A record is stored into its box. -/
theorem wpList_store_rec {P : Program} {ops : Array Oper} {rest : List Oper} {o : Oper} {a : Act} {w : World} {Q : Exit → Act → World → Prop} (hgd : o.guard = none) (ty : TypeId) (x y : Operand) (ho : o.op = .store ty x y) (c : Rec R)
    (g : Nat) (old new : R) (hx : a.eval x = .pointer (some ⟨g, 0, none⟩)) (hy : a.eval y = .agg (c.cells new).toArray) (t : TypeId) (hr : RBox c w t g old) (hi : (P.info? ty).map (·.size) = some c.sz)
    (h : ∀ w', RBox c w' t g new → w.grownBy w' (some g) → wpList P ops Q rest (a.put o.dst undef) w') : wpList P ops Q (o :: rest) a w := by
  refine wpList_store_row hgd ty x y ho g _ hx hy t _ hr (by rw [List.size_toArray, c.len]; exact hi) (by simp [c.len]) (by simp only [List.all_toArray, List.all_eq_true]; exact fun u hu => c.one new u hu) ?_
  exact h _ (setRow_heap w g _ _ t _ hr) ⟨rfl, rfl, rfl, by simp, fun j hj hne => setRow_other w g j _ (fun e => hne (by rw [e]))⟩

/-- Records that came in. -/
def InRec (c : Rec R) (w : World) (a : Option Addr) (n cap : Nat) (D : Nat → R) : Prop := InSl w a n cap c.sz (fun i => (c.cells (D (i / c.sz))).getD (i % c.sz) .nilIface)
theorem InRec.below {w w' : World} {a : Option Addr} {n cap : Nat} {D : Nat → R} (h : InRec c w a n cap D) (hb : Below w.heap.size w w') : InRec c w' a n cap D := InSl.below h hb
/-- The cells of the i-th record that came in. -/
theorem InRec.at {w : World} {a : Option Addr} {n cap : Nat} {D : Nat → R} (h : InRec c w a n cap D) (h0 : 0 < n) : ∃ g off, a = some ⟨g, off, none⟩ ∧ g < w.heap.size ∧ ∀ i, i < n → ∀ j u, (c.cells (D i))[j]? = some u → w.cell? ⟨g, off + i * c.sz + j, none⟩ = some u := by
  obtain ⟨g, off, e, hg, hc⟩ := InSl.place h h0
  refine ⟨g, off, e, hg, fun i hi j u hu => ?_⟩
  have hj : j < c.sz := by rw [← c.len (D i)]; exact (List.getElem?_eq_some_iff.1 hu).1
  have h1 := hc (i * c.sz + j) (by
    have : (i + 1) * c.sz ≤ n * c.sz := Nat.mul_le_mul_right _ hi
    rw [Nat.succ_mul] at this
    omega)
  have e1 : (i * c.sz + j) / c.sz = i := by rw [Nat.mul_comm, Nat.mul_add_div c.pos, Nat.div_eq_of_lt hj, Nat.add_zero]
  have e2 : (i * c.sz + j) % c.sz = j := by rw [Nat.mul_comm, Nat.mul_add_mod, Nat.mod_eq_of_lt hj]
  try dsimp only at h1
  rw [e1, e2, ← Nat.add_assoc] at h1
  rw [h1, List.getD, hu]
  rfl
/-- A row of one's own, as one that came in. -/
theorem OwnR.inRec {a : Option Addr} {n k : Nat} (h : OwnR c W base ty (.slice a n k) rs) (r0 : R) : rs.length = n ∧ InRec c W a n k (fun i => rs.getD i r0) := by
  rcases h.form with ⟨h1, h2⟩ | ⟨g, k', h1, _, hg, hl, hm, hc⟩
  · injection h1 with h1 h1n h1k
    subst h1 h1n h1k h2
    exact ⟨rfl, Nat.le_refl _, by simp [maxLen], fun _ => rfl, fun q => by omega⟩
  · injection h1 with h1 h1n h1k
    subst h1 h1n h1k
    refine ⟨rfl, hl, hm, (fun q => by cases q), fun _ => ⟨g, 0, rfl, hg, fun i hi => ?_⟩⟩
    have hd : i / c.sz < rs.length := Nat.div_lt_of_lt_mul (by rw [Nat.mul_comm]; exact hi)
    have hmo : i % c.sz < c.sz := Nat.mod_lt _ c.pos
    rw [Nat.zero_add]
    have e1 : rs.getD (i / c.sz) r0 = rs[i / c.sz] := by simp [List.getD, hd]
    dsimp only
    rw [e1]
    have hq := c.row_get rs (i / c.sz) (i % c.sz) hd hmo
    rw [show i / c.sz * c.sz + i % c.sz = i by rw [Nat.mul_comm]; exact Nat.div_add_mod i c.sz] at hq
    refine hc i _ ?_
    rw [hq, List.getD, List.getElem?_eq_getElem (by rw [c.len]; exact hmo)]
    rfl
end
section
variable {H : Type} {enc : TypeId × Value → H} {P : Program} {w : World} {base : Nat} {spare : Nat → Bool} {held : Bool} {R : Type}
/-- A slice of records that came in, one opened like the other. -/
theorem open_rec (c : Rec R) (Q : R → Prop) (r0 : R) {t e : TypeId} {a : Option Addr} {n cap : Nat} {d : DataW H} {p : List MemPlace}
    (hu : P.underlying t = some (.slice e)) (hc : P.cellsOf e = c.sz)
    (hel : ∀ (fuel : Nat) (cs : List Value) (x : DataW H × List MemPlace), DataW.trod enc P w base spare held fuel e cs = some x → ∃ r, cs = c.cells r ∧ Q r)
    (h : DataW.Trod enc P w base spare held t (.slice a n cap) d p) : ∃ D : Nat → R, InRec c w a n cap D ∧ ∀ i, i < n → Q (D i) := by
  obtain ⟨V, hin, hV⟩ := open_sl hu hc c.pos h
  have hq : ∀ i, i < n → ∃ r, ((List.range c.sz).map fun j => V (i * c.sz + j)) = c.cells r ∧ Q r := fun i hi => by
    obtain ⟨fuel, x, hx⟩ := hV i hi
    exact hel fuel _ x hx
  obtain ⟨D, hD⟩ : ∃ D : Nat → R, ∀ i, i < n → ((List.range c.sz).map fun j => V (i * c.sz + j)) = c.cells (D i) ∧ Q (D i) := by
    refine ⟨fun i => if hi : i < n then (hq i hi).choose else r0, fun i hi => ?_⟩
    simp only [hi, dif_pos]
    exact (hq i hi).choose_spec
  refine ⟨D, ⟨hin.le, hin.max, hin.nil, fun h0 => ?_⟩, fun i hi => (hD i hi).2⟩
  obtain ⟨g, off, e1, hg, hcc⟩ := hin.place h0
  refine ⟨g, off, e1, hg, fun i hi => ?_⟩
  rw [hcc i hi]
  have hd : i / c.sz < n := Nat.div_lt_of_lt_mul (by rw [Nat.mul_comm]; exact hi)
  have hm : i % c.sz < c.sz := Nat.mod_lt _ c.pos
  have h5 := (hD (i / c.sz) hd).1
  have h8 : ((List.range c.sz).map fun j => V (i / c.sz * c.sz + j)).getD (i % c.sz) .nilIface = V (i / c.sz * c.sz + i % c.sz) := by
    simp [List.getD, hm]
  rw [h5, show i / c.sz * c.sz + i % c.sz = i by rw [Nat.mul_comm]; exact Nat.div_add_mod i c.sz] at h8
  rw [h8]
end
end Go.Proofs.YtlbiefddcimdgaaDoor

/- A tree that is an argument is one that lies in memory. No program is named here. -/
namespace Go.Proofs.YtlbiefddcimdgaaDoor
open Go.ChangeShapes Go.WideShapes Go.RowKit Go.Deep
set_option linter.unusedVariables false

section
variable {H : Type} {enc : TypeId × Value → H} {P : Program} {w : World} {base : Nat} {spare : Nat → Bool} {held : Bool}
/-- A slice that came in: its cells, and that each element is read with less fuel. -/
theorem open_slF {t e : TypeId} {a : Option Addr} {n cap sz fuel : Nat} {x : DataW H × List MemPlace}
    (hu : P.underlying t = some (.slice e)) (hc : P.cellsOf e = sz) (hsz : 0 < sz)
    (h : DataW.trod enc P w base spare held fuel t [.slice a n cap] = some x) :
    ∃ V, InSl w a n cap sz V ∧ ∀ i, i < n → ∃ m x, m < fuel ∧ DataW.trod enc P w base spare held m e ((List.range sz).map fun j => V (i * sz + j)) = some x := by
  rcases DataW.trod_slice hu h with ⟨hcs, _⟩ | ⟨ad, len, cp, elems, rest, m, hfm, hcs, _, hb, hl, hm, hlen, hel, _, _⟩
  · simp at hcs
    obtain ⟨rfl, rfl, rfl⟩ := hcs
    exact ⟨fun _ => .nilIface, ⟨Nat.le_refl _, by simp [maxLen], fun _ => rfl, fun h => by omega⟩, fun i hi => by omega⟩
  · simp at hcs
    obtain ⟨rfl, rfl, rfl⟩ := hcs
    rw [hc] at hel
    have hx : ∀ i, i < n → ∃ cs', w.cells? base (ad.add (i * sz)) sz = some cs' ∧ ∃ y, DataW.trod enc P w base spare held m e cs' = some y := by
      intro i hi
      have h1 := hel i hi
      rw [List.getElem?_eq_getElem (by omega)] at h1
      obtain ⟨cs', h2, h3⟩ := Option.bind_eq_some_iff.1 h1
      exact ⟨cs', h2, _, h3⟩
    by_cases h0 : 0 < n
    · obtain ⟨g, off, spot⟩ := ad
      have hspot : spot = none := by
        obtain ⟨cs', h1, _⟩ := hx 0 (by omega)
        obtain ⟨_, hlen', hcc⟩ := World.cells?_some h1
        have h2 := hcc 0 hsz
        rw [List.getElem?_eq_getElem (by omega)] at h2
        simpa [Addr.add] using World.cell?_spot h2
      subst hspot
      have hadd : ∀ k, (⟨g, off, none⟩ : Addr).add k = ⟨g, off + k, none⟩ := fun k => by unfold Addr.add; split <;> simp_all
      have hadd2 : ∀ k j, ((⟨g, off, none⟩ : Addr).add k).add j = ⟨g, off + (k + j), none⟩ := fun k j => by
        rw [hadd k]
        unfold Addr.add
        split <;> simp_all
        omega
      have hcs : ∀ i, i < n → ∃ cs', cs'.length = sz ∧ (∀ j, j < sz → w.cell? ⟨g, off + (i * sz + j), none⟩ = cs'[j]?) ∧ ∃ y, DataW.trod enc P w base spare held m e cs' = some y := by
        intro i hi
        obtain ⟨cs', h1, h2⟩ := hx i hi
        obtain ⟨_, hlen', hcc⟩ := World.cells?_some h1
        exact ⟨cs', hlen', fun j hj => by have := hcc j hj; rwa [hadd2] at this, h2⟩
      refine ⟨fun i => (w.cell? ⟨g, off + i, none⟩).getD .nilIface, ⟨hl, hm, (fun h => by cases h), fun _ => ⟨g, off, rfl, ?_, fun i hi => ?_⟩⟩, fun i hi => ?_⟩
      · obtain ⟨cs', hlen', hcc, _⟩ := hcs 0 h0
        have h2 := hcc 0 hsz
        rw [List.getElem?_eq_getElem (by omega)] at h2
        exact World.block_lt_of_cell? w _ h2
      · obtain ⟨cs', hlen', hcc, _⟩ := hcs (i / sz) (Nat.div_lt_of_lt_mul (by rw [Nat.mul_comm]; exact hi))
        have h2 := hcc (i % sz) (Nat.mod_lt _ hsz)
        rw [show i / sz * sz + i % sz = i by rw [Nat.mul_comm]; exact Nat.div_add_mod i sz] at h2
        have h3 := Nat.mod_lt i hsz
        rw [List.getElem?_eq_getElem (by omega)] at h2
        simp only [h2, Option.getD_some]
      · obtain ⟨cs', hlen', hcc, y, ht⟩ := hcs i hi
        refine ⟨m, y, by omega, ?_⟩
        have e : ((List.range sz).map fun j => (w.cell? ⟨g, off + (i * sz + j), none⟩).getD .nilIface) = cs' := by
          apply List.ext_getElem
          · simp [hlen']
          · intro j h1 h2
            simp only [List.getElem_map, List.getElem_range]
            rw [hcc j (by omega), List.getElem?_eq_getElem h2]
            rfl
        rw [e]
        exact ht
    · obtain rfl : n = 0 := by omega
      exact ⟨fun _ => .nilIface, ⟨hl, hm, (fun h => by cases h), fun h => by omega⟩, fun i hi => by omega⟩

theorem slice_form {t e : TypeId} {fuel : Nat} {v : Value} {x : DataW H × List MemPlace} (hu : P.underlying t = some (.slice e)) (h : DataW.trod enc P w base spare held fuel t [v] = some x) : ∃ a n c, v = .slice a n c := by
  rcases DataW.trod_slice hu h with ⟨h1, _⟩ | ⟨a', l', c', _, _, _, _, h1, _⟩
  · simp at h1; exact ⟨_, _, _, h1⟩
  · simp at h1; exact ⟨_, _, _, h1⟩

theorem trod_tree {T B : TypeId} {f0 f1 f2 f3 f4 : Field} (he : P.underlying T = some (.struct #[f0, f1, f2, f3, f4])) (hc : P.cellsOf T = 5)
    (o0 : f0.offset = 0) (o1 : f1.offset = 1) (o2 : f2.offset = 2) (o3 : f3.offset = 3) (o4 : f4.offset = 4)
    (c0 : P.cellsOf f0.type = 1) (c1 : P.cellsOf f1.type = 1) (c2 : P.cellsOf f2.type = 1) (c3 : P.cellsOf f3.type = 1) (c4 : P.cellsOf f4.type = 1)
    (u0 : P.underlying f0.type = some (.int .i64)) (u1 : P.underlying f1.type = some (.slice B)) (u2 : P.underlying f2.type = some (.slice B)) (u3 : P.underlying f3.type = some (.slice B)) (u4 : P.underlying f4.type = some (.slice T))
    (hB : P.underlying B = some (.int .u8)) (hcB : P.cellsOf B = 1) (fuel : Nat) :
    ∀ (cs : List Value) (x : DataW H × List MemPlace), DataW.trod enc P w base spare held fuel T cs = some x → ∃ (hd : TH) (t : Tr), cs = hd.cells ∧ InTree w hd t := by
  induction fuel using Nat.strongRecOn with
  | ind fuel ih =>
  intro cs x hx
  obtain ⟨xs, n, hn, _, hl, hxl, hf⟩ := DataW.trod_struct he hx
  rw [hc] at hl
  obtain ⟨v0, v1, v2, v3, v4, rfl⟩ : ∃ v0 v1 v2 v3 v4, cs = [v0, v1, v2, v3, v4] := by
    rcases cs with _ | ⟨v0, _ | ⟨v1, _ | ⟨v2, _ | ⟨v3, _ | ⟨v4, _ | ⟨y, r⟩⟩⟩⟩⟩⟩ <;> simp at hl
    exact ⟨_, _, _, _, _, rfl⟩
  have hxs : xs.length = 5 := by simpa using hxl
  have g0 := hf 0 f0 rfl
  have g1 := hf 1 f1 rfl
  have g2 := hf 2 f2 rfl
  have g3 := hf 3 f3 rfl
  have g4 := hf 4 f4 rfl
  rw [o0, c0, List.getElem?_eq_getElem (by omega)] at g0
  rw [o1, c1, List.getElem?_eq_getElem (by omega)] at g1
  rw [o2, c2, List.getElem?_eq_getElem (by omega)] at g2
  rw [o3, c3, List.getElem?_eq_getElem (by omega)] at g3
  rw [o4, c4, List.getElem?_eq_getElem (by omega)] at g4
  replace g0 : DataW.trod enc P w base spare held n f0.type [v0] = some xs[0] := g0
  replace g1 : DataW.trod enc P w base spare held n f1.type [v1] = some xs[1] := g1
  replace g2 : DataW.trod enc P w base spare held n f2.type [v2] = some xs[2] := g2
  replace g3 : DataW.trod enc P w base spare held n f3.type [v3] = some xs[3] := g3
  replace g4 : DataW.trod enc P w base spare held n f4.type [v4] = some xs[4] := g4
  obtain ⟨k, e0, _, hwf⟩ := DataW.trod_int u0 g0
  obtain ⟨a1, n1, k1, rfl⟩ := slice_form u1 g1
  obtain ⟨a2, n2, k2, rfl⟩ := slice_form u2 g2
  obtain ⟨a3, n3, k3, rfl⟩ := slice_form u3 g3
  obtain ⟨a4, n4, k4, rfl⟩ := slice_form u4 g4
  obtain ⟨key, hkey⟩ := open_bytes (d := xs[1].1) (p := xs[1].2) u1 hB hcB ⟨n, g1⟩
  obtain ⟨val, hval⟩ := open_bytes (d := xs[2].1) (p := xs[2].2) u2 hB hcB ⟨n, g2⟩
  obtain ⟨dig, hdig⟩ := open_bytes (d := xs[3].1) (p := xs[3].2) u3 hB hcB ⟨n, g3⟩
  obtain ⟨V, hsl, hV⟩ := open_slF u4 hc (by omega) g4
  have hq : ∀ i, i < n4 → ∃ q : TH × Tr, ((List.range 5).map fun j => V (i * 5 + j)) = q.1.cells ∧ InTree w q.1 q.2 := by
    intro i hi
    obtain ⟨m, y, hm, hy⟩ := hV i hi
    obtain ⟨hd, t, h1, h2⟩ := ih m (by omega) _ _ hy
    exact ⟨(hd, t), h1, h2⟩
  have hnil : ∃ q : TH × Tr, True := ⟨(⟨0, none, 0, 0, none, 0, 0, none, 0, 0, none, 0, 0⟩, .mk 0 [] [] [] []), trivial⟩
  obtain ⟨Q, hQ⟩ : ∃ Q : Nat → TH × Tr, ∀ i, i < n4 → ((List.range 5).map fun j => V (i * 5 + j)) = (Q i).1.cells ∧ InTree w (Q i).1 (Q i).2 := by
    refine ⟨fun i => if hi : i < n4 then (hq i hi).choose else hnil.choose, fun i hi => ?_⟩
    simp only [hi, dif_pos]
    exact (hq i hi).choose_spec
  have hb := bounds_i64 hwf
  simp at e0
  refine ⟨⟨k, a1, n1, k1, a2, n2, k2, a3, n3, k3, a4, n4, k4⟩, .mk k key val dig ((List.range n4).map fun i => (Q i).2), by rw [e0]; rfl, ?_⟩
  refine .mk _ _ (fun i => (Q i).1) rfl hb.1 hb.2 hkey hval hdig ⟨hsl.le, hsl.max, hsl.nil, fun h0 => ?_⟩ (by simp [Tr.kids]) fun i hi => ?_
  · obtain ⟨g, off, e1, hg, hcc⟩ := hsl.place h0
    refine ⟨g, off, e1, hg, fun i hi => ?_⟩
    rw [hcc i hi]
    have h5 := (hQ (i / 5) (by dsimp only at hi; omega)).1
    have h6 : ((List.range 5).map fun j => V (i / 5 * 5 + j)).getD (i % 5) .nilIface = ((Q (i / 5)).1.cells).getD (i % 5) .nilIface := by rw [h5]
    have h7 : i % 5 < 5 := by omega
    have h8 : ((List.range 5).map fun j => V (i / 5 * 5 + j)).getD (i % 5) .nilIface = V (i / 5 * 5 + i % 5) := by
      simp [List.getD, h7]
    rw [h8, show i / 5 * 5 + i % 5 = i by omega] at h6
    rw [h6]
    rfl
  · simp only [Tr.kids, List.length_map, List.length_range] at hi
    simp only [Tr.kids, List.getElem_map, List.getElem_range]
    exact (hQ i hi).2
end
end Go.Proofs.YtlbiefddcimdgaaDoor

/- Records of two byte strings and a bit. No program is named here. -/
namespace Go.Proofs.YtlbiefddcimdgaaDoor
open Go.ChangeShapes Go.WideShapes Go.RowKit Go.Deep
set_option linter.unusedVariables false

/-- Two byte strings and a bit: a change (its key, its value, whether it is a deletion), a span (its beginning, its end, whether it is open). -/
structure DH where
  ka : Option Addr
  kn : Nat
  kc : Nat
  va : Option Addr
  vn : Nat
  vc : Nat
  out : Bool
def recD : Rec DH where
  cells := fun p => [.slice p.ka p.kn p.kc, .slice p.va p.vn p.vc, .bool p.out]
  sz := 3
  pos := by omega
  len := fun _ => rfl
  one := fun r u hu => by
    simp at hu
    rcases hu with rfl | rfl | rfl <;> rfl
def dZ : DH := ⟨none, 0, 0, none, 0, 0, false⟩

section
variable {H : Type} {enc : TypeId × Value → H} {P : Program} {w : World} {base : Nat} {spare : Nat → Bool} {held : Bool}
theorem trod_deed {T B : TypeId} {f0 f1 f2 : Field} (he : P.underlying T = some (.struct #[f0, f1, f2])) (hc : P.cellsOf T = 3)
    (o0 : f0.offset = 0) (o1 : f1.offset = 1) (o2 : f2.offset = 2) (c0 : P.cellsOf f0.type = 1) (c1 : P.cellsOf f1.type = 1) (c2 : P.cellsOf f2.type = 1)
    (u0 : P.underlying f0.type = some (.slice B)) (u1 : P.underlying f1.type = some (.slice B)) (u2 : P.underlying f2.type = some .bool) (hB : P.underlying B = some (.int .u8)) (hcB : P.cellsOf B = 1)
    (fuel : Nat) (cs : List Value) (x : DataW H × List MemPlace) (hx : DataW.trod enc P w base spare held fuel T cs = some x) :
    ∃ r : DH, cs = recD.cells r ∧ ∃ key val, InBytes w r.ka r.kn r.kc key ∧ InBytes w r.va r.vn r.vc val := by
  obtain ⟨xs, n, hn, _, hl, hxl, hf⟩ := DataW.trod_struct he hx
  rw [hc] at hl
  obtain ⟨v0, v1, v2, rfl⟩ : ∃ v0 v1 v2, cs = [v0, v1, v2] := by
    rcases cs with _ | ⟨v0, _ | ⟨v1, _ | ⟨v2, _ | ⟨y, r⟩⟩⟩⟩ <;> simp at hl
    exact ⟨_, _, _, rfl⟩
  have hxs : xs.length = 3 := by simpa using hxl
  have g0 := hf 0 f0 rfl
  have g1 := hf 1 f1 rfl
  have g2 := hf 2 f2 rfl
  rw [o0, c0, List.getElem?_eq_getElem (by omega)] at g0
  rw [o1, c1, List.getElem?_eq_getElem (by omega)] at g1
  rw [o2, c2, List.getElem?_eq_getElem (by omega)] at g2
  replace g0 : DataW.trod enc P w base spare held n f0.type [v0] = some xs[0] := g0
  replace g1 : DataW.trod enc P w base spare held n f1.type [v1] = some xs[1] := g1
  replace g2 : DataW.trod enc P w base spare held n f2.type [v2] = some xs[2] := g2
  obtain ⟨a0, n0, k0, rfl⟩ := slice_form u0 g0
  obtain ⟨a1, n1, k1, rfl⟩ := slice_form u1 g1
  obtain ⟨b, hb, _⟩ := DataW.trod_bool u2 g2
  simp at hb
  subst hb
  obtain ⟨key, hkey⟩ := open_bytes (d := xs[0].1) (p := xs[0].2) u0 hB hcB ⟨n, g0⟩
  obtain ⟨val, hval⟩ := open_bytes (d := xs[1].1) (p := xs[1].2) u1 hB hcB ⟨n, g1⟩
  exact ⟨⟨a0, n0, k0, a1, n1, k1, b⟩, rfl, key, val, hkey, hval⟩
end
end Go.Proofs.YtlbiefddcimdgaaDoor

/- Spans of keys: what the document says of them, as functions. No program is named here. -/
namespace Go.Proofs.YtlbiefddcimdgaaDoor
open Go.RowKit
set_option linter.unusedVariables false

/-- Not above. -/
theorem le_not (f k : List Int) : (ltL f k || f == k) = !ltL k f := by
  rcases ltL_three f k with c | c | c
  · rw [c, ltL_asymm c]; rfl
  · subst c
    rw [ltL_irr]
    simp
  · rw [c, ltL_asymm c, beq_eq_false_iff_ne.2 (fun q => ltL_ne c q.symm)]
    rfl
/-- Is a key in a span? -/
def inS (f t : List Int) (o : Bool) (key : List Int) : Bool := !ltL key f && (o || ltL key t)
/-- The least key that may be there. -/
def leastS (f low : List Int) (hl : Bool) : List Int := if hl && !ltL low f then low ++ [0] else f
/-- Is no key there? -/
def emptyS (f t : List Int) (o : Bool) (low high : List Int) (hl hh : Bool) : Bool := (hh && !ltL (leastS f low hl) high) || (!o && !ltL (leastS f low hl) t)
/-- Between a key and the key followed by a byte 0 there is none. -/
theorem lt_zero : ∀ (a b : List Int), Bytes8 b → (ltL b (a ++ [0]) = !ltL a b)
  | [], [], _ => rfl
  | [], b :: y, h => by
    have h1 := h b (by simp)
    have e : ltL (b :: y) ([] ++ [0]) = false := by
      simp only [List.nil_append, ltL, Bool.or_eq_false_iff, decide_eq_false_iff_not, Bool.and_eq_false_iff]
      refine ⟨by omega, ?_⟩
      right
      trivial
    rw [e]
    rfl
  | a :: x, [], _ => by simp [ltL]
  | a :: x, b :: y, h => by
    have ih := lt_zero x y (fun z hz => h z (by simp [hz]))
    simp only [List.cons_append, ltL, ih]
    rcases (by omega : a < b ∨ a = b ∨ b < a) with c | c | c
    · have e1 : decide (b < a) = false := decide_eq_false (by omega)
      have e2 : (b == a) = false := by simp; omega
      have e3 : decide (a < b) = true := decide_eq_true c
      rw [e1, e2, e3]
      rfl
    · subst c
      simp
    · have e1 : decide (b < a) = true := decide_eq_true c
      have e2 : (a == b) = false := by simp; omega
      have e3 : decide (a < b) = false := decide_eq_false (by omega)
      rw [e1, e2, e3]
      rfl
theorem zero_lt (a : List Int) : ltL a (a ++ [0]) = true := by
  induction a with
  | nil => rfl
  | cons x a ih => simp [ltL, ih]
/-- The span's two byte strings lie in memory. -/
structure SpanIn (w : World) (h : DH) (f t : List Int) : Prop where
  f : InBytes w h.ka h.kn h.kc f
  t : InBytes w h.va h.vn h.vc t
theorem SpanIn.below {w w' : World} {h : DH} {f t : List Int} (x : SpanIn w h f t) (hb : Below w.heap.size w w') : SpanIn w' h f t := ⟨x.f.below hb, x.t.below hb⟩
def DH.v (h : DH) : Value := .agg #[.slice h.ka h.kn h.kc, .slice h.va h.vn h.vc, .bool h.out]
/-- The span's box: three cells. -/
theorem DH.box (w : World) (ty : TypeId) (h : DH) : RBox recD (w.alloc (.cells #[.slice h.ka h.kn h.kc, .slice h.va h.vn h.vc, .bool h.out] ty)) ty w.heap.size h := heap_alloc_new w _
theorem RBox.three {w : World} {ty : TypeId} {g : Nat} {h : DH} (x : RBox recD w ty g h) : w.cell? ⟨g, 0, none⟩ = some (.slice h.ka h.kn h.kc) ∧ w.cell? ⟨g, 1, none⟩ = some (.slice h.va h.vn h.vc) ∧ w.cell? ⟨g, 2, none⟩ = some (.bool h.out) := ⟨x.cell 0 _ rfl, x.cell 1 _ rfl, x.cell 2 _ rfl⟩
/-- A byte string and a byte 0, as strings. -/
theorem str_zero (a : List Int) : strOfNums a ++ ⟨#[0]⟩ = strOfNums (a ++ [0]) := by
  apply ByteArray.ext
  simp [strOfNums]
theorem str_len (a : List Int) : (strOfNums a).size = a.length := by simp [strOfNums, ByteArray.size]
theorem bytes_zero {a : List Int} (h : Bytes8 a) : Bytes8 (a ++ [0]) := fun z hz => by
  rcases List.mem_append.1 hz with q | q
  · exact h z q
  · simp at q
    omega
end Go.Proofs.YtlbiefddcimdgaaDoor

/- AVL trees: what pairs they have behind an insertion, and behind a deletion. No program is named here. -/
namespace Go.Proofs.YtlbiefddcimdgaaDoor
set_option linter.unusedVariables false

abbrev KV := List Int × List Int
/-- The keys rise. -/
def Rise (l : List KV) : Prop := l.Pairwise fun p q => ltL p.1 q.1 = true
theorem Rise.app {a b : List KV} {k v : List Int} (h : Rise (a ++ ((k, v) :: b))) : Rise a ∧ Rise b ∧ (∀ p ∈ a, ltL p.1 k = true) ∧ (∀ p ∈ b, ltL k p.1 = true) := by
  unfold Rise at h
  rw [List.pairwise_append, List.pairwise_cons] at h
  exact ⟨h.1, h.2.1.2, fun p hp => h.2.2 p hp (k, v) (by simp), fun p hp => h.2.1.1 p hp⟩
theorem filter_all {l : List KV} {p : KV → Bool} (h : ∀ x ∈ l, p x = true) : l.filter p = l := List.filter_eq_self.2 h
theorem filter_no {l : List KV} {p : KV → Bool} (h : ∀ x ∈ l, p x = false) : l.filter p = [] := List.filter_eq_nil_iff.2 fun x hx => by rw [h x hx]; simp
/-- The pairs behind an insertion. -/
theorem AT.put_pairs (key val : List Int) : ∀ a : AT, Rise a.pairs → (a.put key val).pairs = a.pairs.filter (fun p => ltL p.1 key) ++ ((key, val) :: a.pairs.filter (fun p => ltL key p.1)) := by
  intro a
  induction a with
  | nil => intro _; rfl
  | node l k v r ihl ihr =>
    intro h
    rw [AT.pairs] at h
    obtain ⟨hl, hr, hlk, hrk⟩ := h.app
    rw [AT.put_node]
    rw [AT.pairs, List.filter_append, List.filter_append, List.filter_cons, List.filter_cons]
    by_cases c : key = k
    · subst c
      rw [if_pos rfl, AT.pairs, ltL_irr]
      rw [filter_all hlk, filter_no (p := fun p => ltL p.1 key) (fun x hx => ltL_asymm (hrk x hx)), filter_no (p := fun p => ltL key p.1) (fun x hx => ltL_asymm (hlk x hx)), filter_all hrk]
      simp
    · rw [if_neg c]
      by_cases c2 : ltL key k = true
      · rw [if_pos c2, AT.level_pairs, AT.pairs, ihl hl]
        simp only [c2, ltL_asymm c2]
        rw [filter_no (l := r.pairs) (p := fun p => ltL p.1 key) (fun x hx => ltL_asymm (ltL_trans c2 (hrk x hx))), filter_all (l := r.pairs) (p := fun p => ltL key p.1) (fun x hx => ltL_trans c2 (hrk x hx))]
        simp
      · have c3 : ltL k key = true := by
          rcases ltL_three key k with q | q | q
          · exact absurd q c2
          · exact absurd q c
          · exact q
        rw [if_neg c2, AT.level_pairs, AT.pairs, ihr hr]
        simp only [c3, ltL_asymm c3]
        rw [filter_all (l := l.pairs) (p := fun p => ltL p.1 key) (fun x hx => ltL_trans (hlk x hx) c3), filter_no (l := l.pairs) (p := fun p => ltL key p.1) (fun x hx => ltL_asymm (ltL_trans (hlk x hx) c3))]
        simp
end Go.Proofs.YtlbiefddcimdgaaDoor

/- AVL trees as trees of layer 4; which trees are balanced. No program is named here. -/
namespace Go.Proofs.YtlbiefddcimdgaaDoor
set_option linter.unusedVariables false

def AT.tr : AT → Tr
  | .nil => .mk 0 [] [] [] []
  | .node l k v r => .mk 1 k v [] [l.tr, r.tr]
/-- Keys and values within their bounds. -/
def Lim (l : List KV) : Prop := ∀ p ∈ l, p.1.length ≤ 80 ∧ p.2.length ≤ 1024
/-- The nodes, by the order of their keys. -/
def AT.nodes : AT → List AT
  | .nil => []
  | .node l k v r => l.nodes ++ (.node l k v r :: r.nodes)
def AT.kv : AT → KV
  | .nil => ([], [])
  | .node _ k v _ => (k, v)
theorem AT.tr_kids (l : AT) (k v : List Int) (r : AT) : (AT.node l k v r).tr.kids = [l.tr, r.tr] := rfl
theorem AT.tr_formed : ∀ a : AT, formedT a.tr = true ↔ Lim a.pairs := by
  intro a
  induction a with
  | nil =>
    rw [formedT_eq]
    exact ⟨fun _ p hp => by simp [AT.pairs] at hp, fun _ => rfl⟩
  | node l k v r ihl ihr =>
    have e : formedT (AT.node l k v r).tr = ((decide (k.length ≤ 80) && decide (v.length ≤ 1024)) && (formedT l.tr && formedT r.tr)) := by
      have e2 : partB (AT.node l k v r).tr = (decide (k.length ≤ 80) && (decide (v.length ≤ 1024) && (true && true))) := rfl
      rw [formedT_eq, AT.tr_kids, e2]
      simp
    rw [e]
    simp only [Bool.and_eq_true, decide_eq_true_eq, ihl, ihr]
    unfold Lim
    simp only [AT.pairs, List.mem_append, List.mem_cons]
    constructor
    · rintro ⟨h1, h2, h3⟩ p (hp | rfl | hp)
      · exact h2 p hp
      · exact h1
      · exact h3 p hp
    · intro h
      exact ⟨h _ (.inr (.inl rfl)), fun p hp => h p (.inl hp), fun p hp => h p (.inr (.inr hp))⟩
theorem AT.tr_full : ∀ a : AT, fullT a.tr = true := by
  intro a
  induction a with
  | nil => rw [fullT_eq]; rfl
  | node l k v r ihl ihr =>
    rw [fullT_eq, AT.tr_kids]
    simp [ihl, ihr, AT.tr, Tr.k]
theorem part_0 {t : Tr} (h : partB t = true) (hk : t.k = 0) : t.key = [] ∧ t.val = [] ∧ t.dig = [] ∧ t.kids = [] := by
  unfold partB at h
  rw [if_pos hk] at h
  simpa only [Bool.and_eq_true, decide_eq_true_eq, List.length_eq_zero_iff] using h
theorem part_1 {t : Tr} (h : partB t = true) (hk : t.k = 1) : t.dig = [] := by
  unfold partB at h
  rw [if_neg (by omega), if_pos hk] at h
  simp only [Bool.and_eq_true, decide_eq_true_eq, List.length_eq_zero_iff] at h
  exact h.2.2.1
theorem Tr.eta (t : Tr) : t = .mk t.k t.key t.val t.dig t.kids := by cases t; rfl
theorem AT.of_full : ∀ t : Tr, formedT t = true → fullT t = true → ∃ a : AT, t = a.tr := by
  intro t
  induction t using Tr.ind with
  | h t ih =>
  intro hf hl
  obtain ⟨hp, hk⟩ := formed_kids hf
  rw [fullT_eq, Bool.and_eq_true, decide_eq_true_eq, List.all_eq_true] at hl
  rcases part_kids hp with ⟨h0, h | h⟩ | ⟨h2, h | h⟩
  · obtain ⟨q1, q2, q3, q4⟩ := part_0 hp h
    exact ⟨.nil, by rw [Tr.eta t, h, q1, q2, q3, q4]; rfl⟩
  · omega
  · have q := part_1 hp h
    obtain ⟨a, ha⟩ := ih _ (List.getElem_mem (by omega : 0 < t.kids.length)) (hk 0 (by omega)) (hl.2 _ (List.getElem_mem _))
    obtain ⟨b, hb⟩ := ih _ (List.getElem_mem (by omega : 1 < t.kids.length)) (hk 1 (by omega)) (hl.2 _ (List.getElem_mem _))
    have hks : t.kids = [a.tr, b.tr] := by
      rw [← ha, ← hb]
      exact List.ext_getElem (by simpa using h2) (fun i h3 h4 => by
        rcases (by omega : i = 0 ∨ i = 1) with rfl | rfl <;> rfl)
    exact ⟨.node a t.key t.val b, by rw [Tr.eta t, h, q, hks]; rfl⟩
  · omega
theorem AT.tr_depth : ∀ a : AT, depthT a.tr = a.depth := by
  intro a
  induction a with
  | nil => rw [depthT_eq]; rfl
  | node l k v r ihl ihr =>
    rw [depth_two (by rfl)]
    simp only [AT.tr_kids, List.getElem_cons_zero, List.getElem_cons_succ, ihl, ihr, AT.depth]
theorem AT.tr_list : ∀ a : AT, listT a.tr = a.nodes.map AT.tr := by
  intro a
  induction a with
  | nil => exact listT_0 rfl
  | node l k v r ihl ihr =>
    rw [listT_2 (by rfl)]
    simp only [AT.tr_kids, List.getElem_cons_zero, List.getElem_cons_succ, ihl, ihr, AT.nodes, List.map_append, List.map_cons]
theorem AT.nodes_kv : ∀ a : AT, a.nodes.map AT.kv = a.pairs := by
  intro a
  induction a with
  | nil => rfl
  | node l k v r ihl ihr => simp [AT.nodes, AT.pairs, ihl, ihr, AT.kv]
theorem AT.tr_deep : ∀ (a : AT) (b : Int), 0 ≤ b → deepT a.tr b = decide (b < (a.depth : Int)) := by
  intro a
  induction a with
  | nil =>
    intro b hb
    have e : isNode AT.nil.tr = false := rfl
    have e2 : AT.nil.tr.kids = [] := rfl
    rw [deepT_eq, e, e2, Bool.false_and, List.any_nil, Bool.or_false]
    symm
    rw [decide_eq_false_iff_not, AT.depth]
    omega
  | node l k v r ihl ihr =>
    intro b hb
    rw [deepT_eq, AT.tr_kids]
    have hn : isNode (AT.node l k v r).tr = true := by simp [isNode, AT.tr, Tr.k]
    rw [hn, Bool.true_and]
    by_cases h0 : b = 0
    · subst h0
      have e : decide ((0 : Int) < ((AT.node l k v r).depth : Int)) = true := by rw [decide_eq_true_eq, AT.depth]; omega
      rw [e]
      rfl
    · have e : (b == 0) = false := by simp [h0]
      rw [e, Bool.false_or]
      rw [List.any_cons, List.any_cons, List.any_nil, Bool.or_false, ihl (b - 1) (by omega), ihr (b - 1) (by omega), AT.depth, Bool.eq_iff_iff, Bool.or_eq_true, decide_eq_true_eq, decide_eq_true_eq, decide_eq_true_eq]
      omega
/-- Its kids' depths, one less the other. -/
def tiltT (t : Tr) : Int := ((t.kids.map depthT).getD 0 0 : Int) - ((t.kids.map depthT).getD 1 0 : Int)
/-- Do the keys rise, and is each node balanced? -/
def levelB (l : List Tr) : Bool := (List.range l.length).all fun i => (i == 0 || ltL (l.getD (i - 1) (.mk 0 [] [] [] [])).key (l.getD i (.mk 0 [] [] [] [])).key) && (decide (tiltT (l.getD i (.mk 0 [] [] [] [])) ≤ 1) && decide (-1 ≤ tiltT (l.getD i (.mk 0 [] [] [] []))))
def isT (t : Tr) : Bool := decide (checkT t = 0) && (fullT t && levelB (listT t))
theorem AT.bal_nodes : ∀ a : AT, a.bal ↔ ∀ n ∈ a.nodes, n.tilt ≤ 1 ∧ -1 ≤ n.tilt := by
  intro a
  induction a with
  | nil => exact ⟨fun _ n hn => (by simp [AT.nodes] at hn), fun _ => trivial⟩
  | node l k v r ihl ihr =>
    simp only [AT.bal, AT.nodes, List.mem_append, List.mem_cons, ihl, ihr]
    constructor
    · rintro ⟨h1, h2, h3, h4⟩ n (hn | rfl | hn)
      · exact h1 n hn
      · simp only [AT.tilt]; omega
      · exact h2 n hn
    · intro h
      have := h _ (.inr (.inl rfl))
      simp only [AT.tilt] at this
      exact ⟨fun n hn => h n (.inl hn), fun n hn => h n (.inr (.inr hn)), by omega, by omega⟩
theorem AT.nodes_node : ∀ (a : AT) (n : AT), n ∈ a.nodes → n.isNil = false := by
  intro a
  induction a with
  | nil => intro n hn; simp [AT.nodes] at hn
  | node l k v r ihl ihr =>
    intro n hn
    simp only [AT.nodes, List.mem_append, List.mem_cons] at hn
    rcases hn with hn | rfl | hn
    · exact ihl n hn
    · rfl
    · exact ihr n hn
theorem AT.tilt_tr {n : AT} (h : n.isNil = false) : tiltT n.tr = n.tilt ∧ n.tr.key = n.kv.1 ∧ n.tr.val = n.kv.2 := by
  cases n with
  | nil => cases h
  | node l k v r =>
    refine ⟨?_, rfl, rfl⟩
    unfold tiltT
    rw [AT.tr_kids]
    simp [AT.tr_depth, AT.tilt]
theorem rise_of_steps : ∀ (l : List KV), (∀ i (h : i + 1 < l.length), ltL l[i].1 l[i + 1].1 = true) → Rise l
  | [], _ => List.Pairwise.nil
  | [x], _ => List.pairwise_singleton _ _
  | x :: y :: r, h => by
    have ih := rise_of_steps (y :: r) (fun i hi => h (i + 1) (by simp at hi ⊢; omega))
    have h0 := h 0 (by simp)
    unfold Rise at ih ⊢
    rw [List.pairwise_cons]
    refine ⟨fun q hq => ?_, ih⟩
    rcases List.mem_cons.1 hq with rfl | hq
    · exact h0
    · rw [List.pairwise_cons] at ih
      exact ltL_trans h0 (ih.1 q hq)
theorem steps_of_rise {l : List KV} (h : Rise l) : ∀ i (hi : i + 1 < l.length), ltL l[i].1 l[i + 1].1 = true := fun i hi => List.pairwise_iff_getElem.1 h i (i + 1) (by omega) hi (by omega)
theorem AT.level_iff (a : AT) : levelB (listT a.tr) = true ↔ a.bal ∧ Rise a.pairs := by
  rw [AT.tr_list]
  have hlen : (a.nodes.map AT.tr).length = a.nodes.length := List.length_map _
  have hpl : a.pairs.length = a.nodes.length := by rw [← AT.nodes_kv, List.length_map]
  have hkey : ∀ i (hi : i < a.nodes.length), ((a.nodes.map AT.tr).getD i (.mk 0 [] [] [] [])).key = (a.pairs[i]'(by omega)).1 := fun i hi => by
    have h1 := (AT.tilt_tr (AT.nodes_node a _ (List.getElem_mem hi))).2.1
    have e : a.pairs[i]'(by omega) = (a.nodes[i]).kv := by simp only [← AT.nodes_kv, List.getElem_map]
    rw [e, ← h1]
    simp [List.getD, hi]
  have htil : ∀ i (hi : i < a.nodes.length), tiltT ((a.nodes.map AT.tr).getD i (.mk 0 [] [] [] [])) = (a.nodes[i]).tilt := fun i hi => by
    rw [← (AT.tilt_tr (AT.nodes_node a _ (List.getElem_mem hi))).1]
    simp [List.getD, hi]
  unfold levelB
  rw [List.all_eq_true]
  simp only [List.mem_range, hlen, Bool.and_eq_true, Bool.or_eq_true, beq_iff_eq, decide_eq_true_eq]
  constructor
  · intro h
    refine ⟨(AT.bal_nodes a).2 fun n hn => ?_, rise_of_steps _ fun i hi => ?_⟩
    · obtain ⟨i, hi, rfl⟩ := List.getElem_of_mem hn
      have := (h i hi).2
      rw [htil i hi] at this
      exact this
    · rcases (h (i + 1) (by omega)).1 with q | q
      · omega
      · rw [Nat.add_sub_cancel, hkey i (by omega), hkey (i + 1) (by omega)] at q
        exact q
  · rintro ⟨h1, h2⟩ i hi
    refine ⟨?_, ?_⟩
    · rcases Nat.eq_zero_or_pos i with rfl | hp
      · exact .inl rfl
      · right
        obtain ⟨j, rfl⟩ : ∃ j, i = j + 1 := ⟨i - 1, by omega⟩
        rw [Nat.add_sub_cancel, hkey j (by omega), hkey (j + 1) hi]
        exact steps_of_rise h2 j (by omega)
    · rw [htil i hi]
      exact (AT.bal_nodes a).1 h1 _ (List.getElem_mem hi)
/-- Which trees are balanced. -/
theorem isT_iff (t : Tr) : isT t = true ↔ ∃ a : AT, t = a.tr ∧ a.bal ∧ Rise a.pairs ∧ Lim a.pairs ∧ a.depth ≤ 64 := by
  unfold isT
  rw [Bool.and_eq_true, Bool.and_eq_true, decide_eq_true_eq]
  constructor
  · rintro ⟨hc, hf, hl⟩
    have hfo : formedT t = true := by
      unfold checkT at hc
      split at hc
      · cases hc
      · split at hc
        · assumption
        · cases hc
    obtain ⟨a, rfl⟩ := AT.of_full t hfo hf
    have hd : deepT a.tr 64 = false := by
      unfold checkT at hc
      split at hc
      · cases hc
      · rename_i q; simpa using q
    rw [AT.tr_deep a 64 (by omega), decide_eq_false_iff_not] at hd
    exact ⟨a, rfl, ((AT.level_iff a).1 hl).1, ((AT.level_iff a).1 hl).2, (AT.tr_formed a).1 hfo, by omega⟩
  · rintro ⟨a, rfl, h1, h2, h3, h4⟩
    refine ⟨?_, AT.tr_full a, (AT.level_iff a).2 ⟨h1, h2⟩⟩
    have hd : deepT a.tr 64 = false := by rw [AT.tr_deep a 64 (by omega), decide_eq_false_iff_not]; omega
    unfold checkT
    rw [hd, (AT.tr_formed a).2 h3]
    rfl
/-- One tree at most is a tree of layer 4. -/
theorem AT.tr_inj : ∀ {a b : AT}, a.tr = b.tr → a = b
  | .nil, .nil, _ => rfl
  | .nil, .node l k v r, h => by simp [AT.tr] at h
  | .node l k v r, .nil, h => by simp [AT.tr] at h
  | .node l k v r, .node l' k' v' r', h => by
    simp only [AT.tr, Tr.mk.injEq, List.cons.injEq, and_true, true_and] at h
    rw [h.1, h.2.1, AT.tr_inj h.2.2.1, AT.tr_inj h.2.2.2]
end Go.Proofs.YtlbiefddcimdgaaDoor

/- The proof of a balanced tree for a span, as a function: its digest, its form, its nodes. No program is named here. -/
namespace Go.Proofs.YtlbiefddcimdgaaDoor
set_option linter.unusedVariables false

theorem dig_kids {k : Nat} {t : Tr} (h0 : t.k ≠ 0) (h3 : t.k ≠ 3) {p q z : List Int} (hv : valT k t = z) (hz : z.length = k) (h2 : t.kids.length = 2) (hx : digT k (t.kids[0]'(by omega)) = some p) (hy : digT k (t.kids[1]'(by omega)) = some q) :
    digT k t = some ((sumL (nodeL p ((sumL (pairL t.key z)).take k) q)).take k) := by
  rw [digT_node h0 h3 (by rw [hv]; exact hz) h2, hx, hy, hv]
theorem dig_two {k : Nat} (kd : Int) (key v d : List Int) (x y : Tr) (h0 : kd ≠ 0) (h3 : kd ≠ 3) {p q z : List Int} (hv : valT k (.mk kd key v d [x, y]) = z) (hz : z.length = k) (hx : digT k x = some p) (hy : digT k y = some q) :
    digT k (.mk kd key v d [x, y]) = some ((sumL (nodeL p ((sumL (pairL key z)).take k) q)).take k) :=
  dig_kids (t := .mk kd key v d [x, y]) h0 h3 hv hz rfl hx hy
/-- A tree's digest; no digest is asked for that there isn't. -/
def digA (k : Nat) (a : AT) : List Int := (digT k a.tr).getD []
theorem AT.digs {k : Nat} (hk : k ≤ 32) : ∀ a : AT, digT k a.tr = some (digA k a) := by
  have h : ∀ a : AT, ∃ zs, digT k a.tr = some zs := by
    intro a
    induction a with
    | nil => exact ⟨_, digT_0 rfl⟩
    | node l key v r ihl ihr =>
      obtain ⟨x, hx⟩ := ihl
      obtain ⟨y, hy⟩ := ihr
      exact ⟨_, dig_two 1 key v [] l.tr r.tr (by decide) (by decide) rfl (take_sum_len hk _) hx hy⟩
  intro a
  obtain ⟨zs, hz⟩ := h a
  unfold digA
  rw [hz]
  rfl
theorem digA_len {k : Nat} (hk : k ≤ 32) (a : AT) : (digA k a).length = k := digT_len hk (AT.digs hk a)
/-- A value's digest. -/
def dvL (k : Nat) (v : List Int) : List Int := (sumL (valL v)).take k
theorem dvL_len {k : Nat} (hk : k ≤ 32) (v : List Int) : (dvL k v).length = k := take_sum_len hk _
/-- A tree's digest alone. -/
def hideA (k : Nat) (a : AT) : Tr := if a.isNil then .mk 0 [] [] [] [] else .mk 3 [] [] (digA k a) []
/-- The proof. -/
def showA (k : Nat) (f t : List Int) (o : Bool) : AT → Tr
  | .nil => .mk 0 [] [] [] []
  | .node l key v r =>
    if inS f t o key then .mk 1 key v [] [showA k f t o l, showA k f t o r]
    else if ltL key f then .mk 2 key [] (dvL k v) [hideA k l, showA k f t o r]
    else .mk 2 key [] (dvL k v) [showA k f t o l, hideA k r]
theorem show_in {k : Nat} {f t : List Int} {o : Bool} {l : AT} {key v : List Int} {r : AT} (h : inS f t o key = true) : showA k f t o (.node l key v r) = .mk 1 key v [] [showA k f t o l, showA k f t o r] := by rw [showA, if_pos h]
theorem show_lt {k : Nat} {f t : List Int} {o : Bool} {l : AT} {key v : List Int} {r : AT} (h : inS f t o key = false) (h2 : ltL key f = true) : showA k f t o (.node l key v r) = .mk 2 key [] (dvL k v) [hideA k l, showA k f t o r] := by rw [showA, if_neg (by rw [h]; simp), if_pos h2]
theorem show_ge {k : Nat} {f t : List Int} {o : Bool} {l : AT} {key v : List Int} {r : AT} (h : inS f t o key = false) (h2 : ltL key f = false) : showA k f t o (.node l key v r) = .mk 2 key [] (dvL k v) [showA k f t o l, hideA k r] := by rw [showA, if_neg (by rw [h]; simp), if_neg (by rw [h2]; simp)]
/-- The three ways of a node. -/
theorem show_ways (k : Nat) (f t : List Int) (o : Bool) (l : AT) (key v : List Int) (r : AT) :
    (inS f t o key = true ∧ showA k f t o (.node l key v r) = .mk 1 key v [] [showA k f t o l, showA k f t o r]) ∨
    (inS f t o key = false ∧ ltL key f = true ∧ showA k f t o (.node l key v r) = .mk 2 key [] (dvL k v) [hideA k l, showA k f t o r]) ∨
    (inS f t o key = false ∧ ltL key f = false ∧ showA k f t o (.node l key v r) = .mk 2 key [] (dvL k v) [showA k f t o l, hideA k r]) := by
  cases h : inS f t o key with
  | true => exact .inl ⟨rfl, show_in h⟩
  | false =>
    right
    cases h2 : ltL key f with
    | true => exact .inl ⟨rfl, rfl, show_lt h h2⟩
    | false => exact .inr ⟨rfl, rfl, show_ge h h2⟩
theorem hide_dig {k : Nat} (hk : k ≤ 32) (a : AT) : digT k (hideA k a) = some (digA k a) := by
  unfold hideA
  cases h : a.isNil with
  | true =>
    have e := AT.isNil_eq h
    subst e
    exact AT.digs hk .nil
  | false =>
    have e : digT k (.mk 3 [] [] (digA k a) []) = if (digA k a).length = k then some (digA k a) else none := digT_3 rfl
    rw [if_neg (by simp), e, if_pos (digA_len hk a)]
theorem show_dig {k : Nat} (hk : k ≤ 32) (f t : List Int) (o : Bool) : ∀ a : AT, digT k (showA k f t o a) = some (digA k a) := by
  intro a
  induction a with
  | nil => exact AT.digs hk .nil
  | node l key v r ihl ihr =>
    have e : digT k (AT.node l key v r).tr = some ((sumL (nodeL (digA k l) ((sumL (pairL key (dvL k v))).take k) (digA k r))).take k) :=
      dig_two 1 key v [] l.tr r.tr (by decide) (by decide) rfl (dvL_len hk v) (AT.digs hk l) (AT.digs hk r)
    rw [AT.digs hk] at e
    rw [e]
    rcases show_ways k f t o l key v r with ⟨-, h⟩ | ⟨-, -, h⟩ | ⟨-, -, h⟩
    · rw [h]
      exact dig_two 1 key v [] _ _ (by decide) (by decide) rfl (dvL_len hk v) ihl ihr
    · rw [h]
      exact dig_two 2 key [] _ _ _ (by decide) (by decide) rfl (dvL_len hk v) (hide_dig hk l) ihr
    · rw [h]
      exact dig_two 2 key [] _ _ _ (by decide) (by decide) rfl (dvL_len hk v) ihl (hide_dig hk r)
theorem hide_formed {k : Nat} (a : AT) : formedT (hideA k a) = true := by
  unfold hideA
  split <;> (rw [formedT_eq]; rfl)
theorem formed_two {kd : Int} {key v d : List Int} {x y : Tr} (hp : partB (.mk kd key v d [x, y]) = true) (hx : formedT x = true) (hy : formedT y = true) : formedT (.mk kd key v d [x, y]) = true := by
  rw [formedT_eq, hp]
  show ([x, y].all formedT) = true
  simp [hx, hy]
theorem part_node {key v : List Int} {x y : Tr} (hk : key.length ≤ 80) (hv : v.length ≤ 1024) : partB (.mk 1 key v [] [x, y]) = true := by
  show (decide (key.length ≤ 80) && (decide (v.length ≤ 1024) && true)) = true
  simp [hk, hv]
theorem part_dark {key d : List Int} {x y : Tr} (hk : key.length ≤ 80) : partB (.mk 2 key [] d [x, y]) = true := by
  show (decide (key.length ≤ 80) && true) = true
  simp [hk]
theorem show_formed {k : Nat} (f t : List Int) (o : Bool) : ∀ a : AT, Lim a.pairs → formedT (showA k f t o a) = true := by
  intro a
  induction a with
  | nil => intro _; rw [formedT_eq]; rfl
  | node l key v r ihl ihr =>
    intro h
    have hk := h (key, v) (by simp [AT.pairs])
    have hl := ihl (fun p hp => h p (by simp [AT.pairs, hp]))
    have hr := ihr (fun p hp => h p (by simp [AT.pairs, hp]))
    rcases show_ways k f t o l key v r with ⟨-, e⟩ | ⟨-, -, e⟩ | ⟨-, -, e⟩
    · rw [e]
      exact formed_two (part_node hk.1 hk.2) hl hr
    · rw [e]
      exact formed_two (part_dark hk.1) (hide_formed l) hr
    · rw [e]
      exact formed_two (part_dark hk.1) hl (hide_formed r)
theorem hide_deep {k : Nat} (a : AT) (b : Int) : deepT (hideA k a) b = false := by
  unfold hideA
  split <;> (rw [deepT_eq]; rfl)
theorem deep_two {kd : Int} {key v d : List Int} {x y : Tr} {b : Int} (hb : 0 < b) (hx : deepT x (b - 1) = false) (hy : deepT y (b - 1) = false) : deepT (.mk kd key v d [x, y]) b = false := by
  rw [deepT_eq]
  have e : (b == 0) = false := by simp; omega
  rw [e, Bool.and_false, Bool.false_or]
  show ([x, y].any fun z => deepT z (b - 1)) = false
  simp [hx, hy]
theorem show_deep {k : Nat} (f t : List Int) (o : Bool) : ∀ (a : AT) (b : Int), (a.depth : Int) ≤ b → deepT (showA k f t o a) b = false := by
  intro a
  induction a with
  | nil => intro b _; rw [showA, deepT_eq]; rfl
  | node l key v r ihl ihr =>
    intro b hb
    have hd : (AT.node l key v r).depth = max l.depth r.depth + 1 := rfl
    have hl := ihl (b - 1) (by omega)
    have hr := ihr (b - 1) (by omega)
    rcases show_ways k f t o l key v r with ⟨-, e⟩ | ⟨-, -, e⟩ | ⟨-, -, e⟩
    · rw [e]
      exact deep_two (by omega) hl hr
    · rw [e]
      exact deep_two (by omega) (hide_deep l _) hr
    · rw [e]
      exact deep_two (by omega) hl (hide_deep r _)
theorem show_check {k : Nat} (f t : List Int) (o : Bool) {a : AT} (h : Lim a.pairs) (hd : a.depth ≤ 64) : checkT (showA k f t o a) = 0 := by
  unfold checkT
  rw [show_deep f t o a 64 (by omega), show_formed f t o a h]
  rfl
/-- The pairs that a partial tree tells. -/
def toldB (x : Tr) : Bool := x.k == 1
def toldT (t : Tr) : List KV := ((listT t).filter toldB).map fun x => (x.key, x.val)
theorem told_0 {t : Tr} (h : t.kids.length = 0) : toldT t = [] := by
  unfold toldT
  rw [listT_0 h]
  rfl
theorem told_kids {t x y : Tr} (h2 : t.kids.length = 2) (hx : t.kids[0]'(by omega) = x) (hy : t.kids[1]'(by omega) = y) : toldT t = toldT x ++ ((if t.k == 1 then [(t.key, t.val)] else []) ++ toldT y) := by
  unfold toldT
  rw [listT_2 h2, hx, hy, List.filter_append, List.map_append, List.filter_cons]
  have e2 : toldB t = (t.k == 1) := rfl
  rw [e2]
  cases (t.k == 1) <;> rfl
theorem told_two (kd : Int) (key v d : List Int) (x y : Tr) : toldT (.mk kd key v d [x, y]) = toldT x ++ ((if kd == 1 then [(key, v)] else []) ++ toldT y) :=
  told_kids (t := .mk kd key v d [x, y]) rfl rfl rfl
theorem hide_told {k : Nat} (a : AT) : toldT (hideA k a) = [] := by
  unfold hideA
  split <;> exact told_0 rfl
theorem in_above {f t key x : List Int} {o : Bool} (h : inS f t o key = false) (h2 : ltL key f = false) (hx : ltL key x = true) : inS f t o x = false := by
  unfold inS at h ⊢
  rw [h2, Bool.not_false, Bool.true_and, Bool.or_eq_false_iff] at h
  rw [h.1, Bool.false_or, Bool.and_eq_false_iff]
  right
  cases q : ltL x t with
  | false => rfl
  | true => rw [ltL_trans hx q] at h; cases h.2
theorem in_below {f t key x : List Int} {o : Bool} (h2 : ltL key f = true) (hx : ltL x key = true) : inS f t o x = false := by
  unfold inS
  rw [ltL_trans hx h2]
  rfl
theorem show_told {k : Nat} (f t : List Int) (o : Bool) : ∀ a : AT, Rise a.pairs → toldT (showA k f t o a) = a.pairs.filter (fun p => inS f t o p.1) := by
  intro a
  induction a with
  | nil => intro _; exact told_0 rfl
  | node l key v r ihl ihr =>
    intro h
    obtain ⟨h1, h2, h3, h4⟩ := Rise.app h
    have ep : (AT.node l key v r).pairs = l.pairs ++ ((key, v) :: r.pairs) := rfl
    rw [ep, List.filter_append, List.filter_cons]
    rcases show_ways k f t o l key v r with ⟨q1, e⟩ | ⟨q1, q2, e⟩ | ⟨q1, q2, e⟩
    · rw [e, told_two, ihl h1, ihr h2, q1]
      rfl
    · have hn : l.pairs.filter (fun p => inS f t o p.1) = [] := filter_no fun p hp => in_below q2 (h3 p hp)
      rw [e, told_two, ihr h2, hide_told, q1, hn]
      rfl
    · have hn : r.pairs.filter (fun p => inS f t o p.1) = [] := filter_no fun p hp => in_above q1 q2 (h4 p hp)
      rw [e, told_two, ihl h1, hide_told, q1, hn]
      rfl
theorem hide_count {k : Nat} (a : AT) : countT (hideA k a) = 1 := by
  unfold hideA
  split <;> (rw [countT_eq]; rfl)
theorem count_pair {kd : Int} {key v d : List Int} {x y : Tr} : countT (.mk kd key v d [x, y]) = 1 + (countT x + countT y) := by
  rw [countT_eq]
  show 1 + ([x, y].map countT).sum = _
  simp
theorem AT.count1 (a : AT) : 1 ≤ countT a.tr := by
  rw [countT_eq]
  omega
theorem show_count {k : Nat} (f t : List Int) (o : Bool) : ∀ a : AT, countT (showA k f t o a) ≤ countT a.tr := by
  intro a
  induction a with
  | nil => exact Nat.le_refl _
  | node l key v r ihl ihr =>
    have h1 := l.count1
    have h2 := r.count1
    have e2 : countT (AT.node l key v r).tr = 1 + (countT l.tr + countT r.tr) := count_pair
    rcases show_ways k f t o l key v r with ⟨q1, e⟩ | ⟨q1, q2, e⟩ | ⟨q1, q2, e⟩
    · rw [e, e2, count_pair]
      omega
    · rw [e, e2, count_pair, hide_count]
      omega
    · rw [e, e2, count_pair, hide_count]
      omega
theorem light_two {kd : Int} {key v d : List Int} {x y : Tr} (hk : key.length ≤ 3000) (hv : v.length ≤ 3000) (hd : d.length ≤ 3000) (hx : LightOK x) (hy : LightOK y) : LightOK (.mk kd key v d [x, y]) :=
  .mk _ hk hv hd (by show 2 ≤ 500; omega) (fun i hi => by
    have hi2 : i < 2 := hi
    rcases (by omega : i = 0 ∨ i = 1) with rfl | rfl
    · exact hx
    · exact hy)
theorem light_none {kd : Int} {key v d : List Int} (hk : key.length ≤ 3000) (hv : v.length ≤ 3000) (hd : d.length ≤ 3000) : LightOK (.mk kd key v d []) :=
  .mk _ hk hv hd (by show 0 ≤ 500; omega) (fun i hi => by
    have hi2 : i < 0 := hi
    omega)
theorem hide_light {k : Nat} (hk : k ≤ 32) (a : AT) : LightOK (hideA k a) := by
  unfold hideA
  split
  · exact light_none (Nat.zero_le _) (Nat.zero_le _) (Nat.zero_le _)
  · exact light_none (Nat.zero_le _) (Nat.zero_le _) (by rw [digA_len hk]; omega)
theorem show_light {k : Nat} (hk : k ≤ 32) (f t : List Int) (o : Bool) : ∀ a : AT, Lim a.pairs → LightOK (showA k f t o a) := by
  intro a
  induction a with
  | nil => intro _; exact light_none (Nat.zero_le _) (Nat.zero_le _) (Nat.zero_le _)
  | node l key v r ihl ihr =>
    intro h
    have hkv := h (key, v) (by simp [AT.pairs])
    have h1 : key.length ≤ 3000 := Nat.le_trans hkv.1 (by omega)
    have h2 : v.length ≤ 3000 := Nat.le_trans hkv.2 (by omega)
    have hl := ihl (fun p hp => h p (by simp [AT.pairs, hp]))
    have hr := ihr (fun p hp => h p (by simp [AT.pairs, hp]))
    rcases show_ways k f t o l key v r with ⟨q1, e⟩ | ⟨q1, q2, e⟩ | ⟨q1, q2, e⟩
    · rw [e]
      exact light_two h1 h2 (Nat.zero_le _) hl hr
    · rw [e]
      exact light_two h1 (Nat.zero_le _) (by rw [dvL_len hk]; omega) (hide_light hk l) hr
    · rw [e]
      exact light_two h1 (Nat.zero_le _) (by rw [dvL_len hk]; omega) hl (hide_light hk r)
end Go.Proofs.YtlbiefddcimdgaaDoor

/- What a proof shows of a span, as a function: its items, their order, what is covered. No program is named here. -/
namespace Go.Proofs.YtlbiefddcimdgaaDoor
set_option linter.unusedVariables false

/-- What stands in a proof: a key, dark or not, or a cut. -/
structure IT where
  cut : Bool
  dark : Bool
  key : List Int
  val : List Int
def itemsT (t : Tr) : List IT := t.fold fun t rs =>
  if t.k = 0 then [] else if t.k = 3 then [⟨true, false, [], []⟩] else rs.getD 0 [] ++ (⟨false, t.k == 2, t.key, t.val⟩ :: rs.getD 1 [])
theorem itemsT_0 {t : Tr} (h : t.k = 0) : itemsT t = [] := by
  unfold itemsT
  rw [Tr.fold_eq, if_pos h]
theorem itemsT_3 {t : Tr} (h : t.k = 3) : itemsT t = [⟨true, false, [], []⟩] := by
  unfold itemsT
  rw [Tr.fold_eq, if_neg (by omega), if_pos h]
theorem itemsT_node {t : Tr} (h0 : t.k ≠ 0) (h3 : t.k ≠ 3) (h2 : t.kids.length = 2) : itemsT t = itemsT (t.kids[0]'(by omega)) ++ (⟨false, t.k == 2, t.key, t.val⟩ :: itemsT (t.kids[1]'(by omega))) := by
  have e : itemsT t = (t.kids.map itemsT).getD 0 [] ++ (⟨false, t.k == 2, t.key, t.val⟩ :: (t.kids.map itemsT).getD 1 []) := by
    conv => lhs; unfold itemsT
    rw [Tr.fold_eq, if_neg h0, if_neg h3]
    rfl
  rw [e]
  simp [List.getD, h2]
theorem items_two (kd : Int) (key v d : List Int) (x y : Tr) (h0 : kd ≠ 0) (h3 : kd ≠ 3) : itemsT (.mk kd key v d [x, y]) = itemsT x ++ (⟨false, kd == 2, key, v⟩ :: itemsT y) := itemsT_node (t := .mk kd key v d [x, y]) h0 h3 rfl
/-- The next key, if there is one. -/
def nextI : List IT → List Int × Bool
  | [] => ([], false)
  | x :: l => if x.cut then nextI l else (x.key, true)
/-- Do the keys rise? -/
def keysI (l : List IT) : List IT := l.filter fun x => !x.cut
def riseI (l : List IT) : Bool := (List.range (keysI l).length).all fun i => i == 0 || ltL ((keysI l).getD (i - 1) ⟨false, false, [], []⟩).key ((keysI l).getD i ⟨false, false, [], []⟩).key
/-- The pairs that are told; none: the span is not covered. -/
def scanI (f t : List Int) (o : Bool) : List Int → Bool → List IT → Option (List KV)
  | _, _, [] => some []
  | low, has, x :: l =>
    if x.cut then (if emptyS f t o low (nextI l).1 has (nextI l).2 then scanI f t o low has l else none)
    else if inS f t o x.key then (if x.dark then none else (scanI f t o x.key true l).map fun r => (x.key, x.val) :: r)
    else scanI f t o x.key true l
theorem scan_cut {f t : List Int} {o : Bool} {low : List Int} {has : Bool} {x : IT} {l : List IT} (h : x.cut = true) : scanI f t o low has (x :: l) = if emptyS f t o low (nextI l).1 has (nextI l).2 then scanI f t o low has l else none := by rw [scanI, if_pos h]
theorem scan_key {f t : List Int} {o : Bool} {low : List Int} {has : Bool} {x : IT} {l : List IT} (h : x.cut = false) : scanI f t o low has (x :: l) = if inS f t o x.key then (if x.dark then none else (scanI f t o x.key true l).map fun r => (x.key, x.val) :: r) else scanI f t o x.key true l := by rw [scanI, if_neg (by rw [h]; simp)]
/-- All of it: the error's number, and the pairs. -/
def checkR (k : Nat) (root : List Int) (f t : List Int) (o : Bool) (p : Tr) : Nat × List KV :=
  if checkT p ≠ 0 then (checkT p, [])
  else match digT k p with
    | none => (3, [])
    | some d => if d ≠ root then (6, [])
      else if riseI (itemsT p) = false then (7, [])
      else match scanI f t o [] false (itemsT p) with
        | none => (8, [])
        | some l => (0, l)
/-- The last key of some items, or what was the last one before them. -/
def lastI (low : List Int) (has : Bool) : List IT → List Int × Bool
  | [] => (low, has)
  | x :: l => if x.cut then lastI low has l else lastI x.key true l
theorem last_app (low : List Int) (has : Bool) : ∀ (a b : List IT), lastI low has (a ++ b) = lastI (lastI low has a).1 (lastI low has a).2 b := by
  intro a
  induction a generalizing low has with
  | nil => intro b; rfl
  | cons x l ih =>
    intro b
    rw [List.cons_append, lastI, lastI]
    split
    · exact ih _ _ _
    · exact ih _ _ _
/-- Empty of what a smaller span asks. -/
theorem emptyS_less {f t f' t' : List Int} {o : Bool} {low high : List Int} {hl hh : Bool} (hb : Bytes8 f') (h1 : ltL f' f = false) (h2 : o = true ∨ ltL t t' = false) (h : emptyS f t o low high hl hh = true) : emptyS f' t' false low high hl hh = true := by
  -- the least key does not fall
  have hle : ltL (leastS f' low hl) (leastS f low hl) = false := by
    cases q : ltL (leastS f' low hl) (leastS f low hl) with
    | false => rfl
    | true =>
      exfalso
      unfold leastS at q
      split at q
      · rename_i c
        split at q
        · rw [ltL_irr] at q; cases q
        · rename_i c2
          rw [Bool.and_eq_true, Bool.not_eq_true'] at c
          rw [c.1, Bool.true_and, Bool.not_eq_true', Bool.not_eq_false] at c2
          -- low is below f, not below f': then f' is below f
          rcases ltL_three f' low with d | d | d
          · rw [ltL_trans d c2] at h1; cases h1
          · rw [d, c2] at h1; cases h1
          · rw [d] at c; cases c.2
      · rename_i c
        split at q
        · rename_i c2
          rw [Bool.and_eq_true, Bool.not_eq_true'] at c2
          rw [c2.1, Bool.true_and, Bool.not_eq_true', Bool.not_eq_false] at c
          -- low is below f', and f' below low and a byte 0
          rcases ltL_three low f' with d | d | d
          · rw [lt_zero low f' hb, d] at q; cases q
          · rw [d] at c; rw [ltL_irr] at c; cases c
          · rw [ltL_asymm d] at c; cases c
        · rw [h1] at q; cases q
  have trans : ∀ {x : List Int}, ltL (leastS f' low hl) x = true → ltL (leastS f low hl) x = true := fun {x} hx => by
    rcases ltL_three (leastS f' low hl) (leastS f low hl) with d | d | d
    · rw [d] at hle; cases hle
    · rw [← d]; exact hx
    · exact ltL_trans d hx
  unfold emptyS at h ⊢
  rw [Bool.or_eq_true, Bool.and_eq_true, Bool.and_eq_true, Bool.not_eq_true', Bool.not_eq_true', Bool.not_eq_true'] at h
  rw [Bool.or_eq_true, Bool.and_eq_true, Bool.and_eq_true, Bool.not_eq_true', Bool.not_eq_true', Bool.not_eq_true']
  rcases h with ⟨a, b⟩ | ⟨a, b⟩
  · left
    refine ⟨a, ?_⟩
    cases q : ltL (leastS f' low hl) high with
    | false => rfl
    | true => rw [trans q] at b; cases b
  · right
    refine ⟨rfl, ?_⟩
    cases q : ltL (leastS f' low hl) t' with
    | false => rfl
    | true =>
      have q2 := trans q
      rcases h2 with h2 | h2
      · rw [h2] at a; cases a
      · rcases ltL_three t t' with d | d | d
        · rw [d] at h2; cases h2
        · rw [d, q2] at b; cases b
        · rw [ltL_trans q2 d] at b; cases b
theorem hide_items {k : Nat} (a : AT) : itemsT (hideA k a) = if a.isNil then [] else [⟨true, false, [], []⟩] := by
  unfold hideA
  split
  · exact itemsT_0 rfl
  · exact itemsT_3 rfl
theorem least_ge' (f low : List Int) (hl : Bool) : ltL (leastS f low hl) f = false := by
  unfold leastS
  split
  · rename_i hc
    rw [Bool.and_eq_true, Bool.not_eq_true'] at hc
    cases q : ltL (low ++ [0]) f with
    | false => rfl
    | true => rw [ltL_trans (zero_lt low) q] at hc; cases hc.2
  · exact ltL_irr f
/-- Left of a key that is below the span nothing is hidden that is asked for. -/
theorem empty_left {f t low key : List Int} {o has : Bool} (h : ltL key f = true) : emptyS f t o low key has true = true := by
  have e : ltL (leastS f low has) key = false := by
    cases q : ltL (leastS f low has) key with
    | false => rfl
    | true => have q2 := ltL_trans q h; rw [least_ge'] at q2; cases q2
  unfold emptyS
  rw [e]
  rfl
/-- Right of a key that is not below the span's end nothing is hidden that is asked for. -/
theorem empty_right {f t key high : List Int} {o hh : Bool} (h : inS f t o key = false) (h2 : ltL key f = false) : emptyS f t o key high true hh = true := by
  unfold inS at h
  rw [h2, Bool.not_false, Bool.true_and, Bool.or_eq_false_iff] at h
  have e : leastS f key true = key ++ [0] := by unfold leastS; rw [h2]; rfl
  have e2 : ltL (key ++ [0]) t = false := by
    cases q : ltL (key ++ [0]) t with
    | false => rfl
    | true => rw [ltL_trans (zero_lt key) q] at h; cases h.2
  unfold emptyS
  rw [e, e2, h.1, Bool.not_false, Bool.and_true, Bool.or_true]
theorem show_scan {k : Nat} (f t : List Int) (o : Bool) : ∀ (a : AT) (low : List Int) (has : Bool) (rest : List IT),
    scanI f t o low has (itemsT (showA k f t o a) ++ rest) = (scanI f t o (lastI low has (itemsT (showA k f t o a))).1 (lastI low has (itemsT (showA k f t o a))).2 rest).map fun r => toldT (showA k f t o a) ++ r := by
  intro a
  induction a with
  | nil =>
    intro low has rest
    have e : itemsT (showA k f t o .nil) = [] := itemsT_0 rfl
    have e2 : toldT (showA k f t o .nil) = [] := told_0 rfl
    rw [e, e2]
    simp [lastI]
  | node l key v r ihl ihr =>
    intro low has rest
    rcases show_ways k f t o l key v r with ⟨q1, e⟩ | ⟨q1, q2, e⟩ | ⟨q1, q2, e⟩
    · have ei : itemsT (.mk 1 key v [] [showA k f t o l, showA k f t o r]) = itemsT (showA k f t o l) ++ (⟨false, false, key, v⟩ :: itemsT (showA k f t o r)) := items_two 1 key v [] _ _ (by decide) (by decide)
      have et : toldT (.mk 1 key v [] [showA k f t o l, showA k f t o r]) = toldT (showA k f t o l) ++ ((key, v) :: toldT (showA k f t o r)) := told_two 1 key v [] _ _
      rw [e, ei, et, List.append_assoc, ihl, last_app, List.cons_append, scan_key rfl, if_pos q1, if_neg (by simp), ihr]
      simp [lastI, Option.map_map, Function.comp_def]
    · have ei : itemsT (.mk 2 key [] (dvL k v) [hideA k l, showA k f t o r]) = itemsT (hideA k l) ++ (⟨false, true, key, []⟩ :: itemsT (showA k f t o r)) := items_two 2 key [] (dvL k v) _ _ (by decide) (by decide)
      have et : toldT (.mk 2 key [] (dvL k v) [hideA k l, showA k f t o r]) = toldT (showA k f t o r) := by
        rw [told_two, hide_told]
        rfl
      have es : ∀ x, scanI f t o low has (itemsT (hideA k l) ++ (⟨false, true, key, []⟩ :: x)) = scanI f t o low has (⟨false, true, key, []⟩ :: x) := fun x => by
        rw [hide_items]
        split
        · rfl
        · rw [List.cons_append, List.nil_append, scan_cut rfl]
          have en : nextI (⟨false, true, key, []⟩ :: x) = (key, true) := rfl
          rw [en, empty_left q2]
          rfl
      have el : ∀ x, lastI low has (itemsT (hideA k l) ++ (⟨false, true, key, []⟩ :: x)) = lastI key true x := fun x => by
        rw [last_app, hide_items]
        rfl
      rw [e, ei, et, List.append_assoc, List.cons_append, es, scan_key rfl, if_neg (by rw [q1]; simp), ihr, el]
    · have ei : itemsT (.mk 2 key [] (dvL k v) [showA k f t o l, hideA k r]) = itemsT (showA k f t o l) ++ (⟨false, true, key, []⟩ :: itemsT (hideA k r)) := items_two 2 key [] (dvL k v) _ _ (by decide) (by decide)
      have et : toldT (.mk 2 key [] (dvL k v) [showA k f t o l, hideA k r]) = toldT (showA k f t o l) := by
        rw [told_two, hide_told]
        simp
      have es : scanI f t o key true (itemsT (hideA k r) ++ rest) = scanI f t o key true rest := by
        rw [hide_items]
        split
        · rfl
        · rw [List.cons_append, List.nil_append, scan_cut rfl, empty_right q1 q2]
          rfl
      have el : ∀ lw hs, lastI lw hs (⟨false, true, key, []⟩ :: itemsT (hideA k r)) = (key, true) := fun lw hs => by
        rw [hide_items]
        split <;> rfl
      rw [e, ei, et, List.append_assoc, ihl, last_app, el, List.cons_append, scan_key rfl, if_neg (by rw [q1]; simp), es]
/-- An honest proof covers its span, and tells the pairs in it. -/
theorem show_covers {k : Nat} (f t : List Int) (o : Bool) (a : AT) : scanI f t o [] false (itemsT (showA k f t o a)) = some (toldT (showA k f t o a)) := by
  have h := show_scan (k := k) f t o a [] false []
  rw [List.append_nil] at h
  rw [h, scanI]
  simp
theorem show_keys {k : Nat} (f t : List Int) (o : Bool) : ∀ a : AT, ((keysI (itemsT (showA k f t o a))).map (·.key)).Sublist (a.pairs.map (·.1)) := by
  intro a
  induction a with
  | nil =>
    have e : itemsT (showA k f t o .nil) = [] := itemsT_0 rfl
    rw [e]
    exact List.Sublist.refl _
  | node l key v r ihl ihr =>
    have ep : (AT.node l key v r).pairs = l.pairs ++ ((key, v) :: r.pairs) := rfl
    have hid : ∀ x : AT, keysI (itemsT (hideA k x)) = [] := fun x => by
      rw [hide_items]
      split <;> rfl
    have two : ∀ (x y : List IT) (d : Bool) (z : List Int), keysI (x ++ (⟨false, d, key, z⟩ :: y)) = keysI x ++ (⟨false, d, key, z⟩ :: keysI y) := fun x y d z => by
      unfold keysI
      rw [List.filter_append, List.filter_cons]
      rfl
    rw [ep, List.map_append, List.map_cons]
    rcases show_ways k f t o l key v r with ⟨q1, e⟩ | ⟨q1, q2, e⟩ | ⟨q1, q2, e⟩
    · rw [e, items_two _ _ _ _ _ _ (by decide) (by decide), two, List.map_append, List.map_cons]
      exact ihl.append (ihr.cons_cons _)
    · rw [e, items_two _ _ _ _ _ _ (by decide) (by decide), two, hid, List.nil_append, List.map_cons]
      exact (ihr.cons_cons key).trans (List.sublist_append_right _ _)
    · rw [e, items_two _ _ _ _ _ _ (by decide) (by decide), two, hid, List.map_append, List.map_cons]
      exact ihl.append ((List.nil_sublist _).cons_cons key)
theorem rise_of {l : List IT} (h : ((keysI l).map (·.key)).Pairwise fun p q => ltL p q = true) : riseI l = true := by
  unfold riseI
  rw [List.all_eq_true]
  intro i hi
  rw [List.mem_range] at hi
  rcases Nat.eq_zero_or_pos i with rfl | h0
  · rfl
  · have q := List.pairwise_iff_getElem.1 h (i - 1) i (by rw [List.length_map]; omega) (by rw [List.length_map]; omega) (by omega)
    rw [List.getElem_map, List.getElem_map] at q
    rw [Bool.or_eq_true]
    right
    simp only [List.getD, List.getElem?_eq_getElem hi, List.getElem?_eq_getElem (show i - 1 < (keysI l).length by omega), Option.getD_some]
    exact q
theorem show_rise {k : Nat} (f t : List Int) (o : Bool) {a : AT} (h : Rise a.pairs) : riseI (itemsT (showA k f t o a)) = true :=
  rise_of (List.Pairwise.sublist (show_keys f t o a) (List.Pairwise.map _ (fun p q hpq => hpq) h))
/-- An honest proof is taken, and tells the pairs of the tree in the span. -/
theorem show_check8 {k : Nat} (hk : k ≤ 32) (f t : List Int) (o : Bool) {a : AT} (hr : Rise a.pairs) (hl : Lim a.pairs) (hd : a.depth ≤ 64) : checkR k (digA k a) f t o (showA k f t o a) = (0, a.pairs.filter fun p => inS f t o p.1) := by
  unfold checkR
  rw [if_neg (by rw [show_check f t o hl hd]; simp), show_dig hk]
  simp only [ne_eq, not_true_eq_false, if_false, show_rise f t o hr, Bool.true_eq_false, show_covers, show_told f t o a hr]
theorem in_less {f t f' t' x : List Int} {o : Bool} (h1 : ltL f' f = false) (h2 : o = true ∨ ltL t t' = false) (h : inS f' t' false x = true) : inS f t o x = true := by
  unfold inS at h ⊢
  rw [Bool.and_eq_true, Bool.false_or, Bool.not_eq_true'] at h
  rw [Bool.and_eq_true, Bool.or_eq_true, Bool.not_eq_true']
  refine ⟨?_, ?_⟩
  · cases q : ltL x f with
    | false => rfl
    | true =>
      rcases ltL_three f' f with d | d | d
      · rw [d] at h1; cases h1
      · rw [d, q] at h; cases h.1
      · rw [ltL_trans q d] at h; cases h.1
  · rcases h2 with h2 | h2
    · exact .inl h2
    · right
      rcases ltL_three t t' with d | d | d
      · rw [d] at h2; cases h2
      · rw [d]; exact h.2
      · exact ltL_trans h.2 d
/-- Who takes a proof for a span takes it for each span within it. -/
theorem scan_less {f t f' t' : List Int} {o : Bool} (hb : Bytes8 f') (h1 : ltL f' f = false) (h2 : o = true ∨ ltL t t' = false) : ∀ (l : List IT) (low : List Int) (has : Bool) (kv : List KV), scanI f t o low has l = some kv → scanI f' t' false low has l = some (kv.filter fun p => inS f' t' false p.1) := by
  intro l
  induction l with
  | nil =>
    intro low has kv h
    rw [scanI] at h
    injection h with h
    rw [← h, scanI]
    rfl
  | cons x l ih =>
    intro low has kv h
    cases hc : x.cut with
    | true =>
      rw [scan_cut hc] at h ⊢
      split at h
      · rename_i he
        rw [if_pos (emptyS_less hb h1 h2 he)]
        exact ih low has kv h
      · cases h
    | false =>
      rw [scan_key hc] at h ⊢
      cases hi : inS f' t' false x.key with
      | true =>
        rw [in_less h1 h2 hi, if_pos rfl] at h
        rw [if_pos rfl]
        split at h
        · cases h
        · rename_i hd
          rw [if_neg hd]
          rw [Option.map_eq_some_iff] at h
          obtain ⟨r, hr, e⟩ := h
          rw [ih _ _ _ hr, ← e, List.filter_cons, hi, if_pos rfl]
          rfl
      | false =>
        rw [if_neg (by simp)]
        cases hj : inS f t o x.key with
        | true =>
          rw [hj, if_pos rfl] at h
          split at h
          · cases h
          · rw [Option.map_eq_some_iff] at h
            obtain ⟨r, hr, e⟩ := h
            rw [ih _ _ _ hr, ← e, List.filter_cons, hi]
            rfl
        | false =>
          rw [hj, if_neg (by simp)] at h
          exact ih _ _ _ h
end Go.Proofs.YtlbiefddcimdgaaDoor

/- Boxes of trees that are written; a tree of two that were made; appends of bytes at a step. No program is named here. -/
namespace Go.Proofs.YtlbiefddcimdgaaDoor
open Go.RowKit
set_option linter.unusedVariables false

/-- A tree is stored into a box, at a step. -/
theorem wp_store_box {P : Program} {o : Oper} {a : Act} {w : World} {K : Act → World → Prop} {Q : Exit → Act → World → Prop} (ty : TypeId) (x y : Operand) (ho : o.op = .store ty x y)
    (g : Nat) (old new : TH) (hx : a.eval x = .pointer (some ⟨g, 0, none⟩)) (hy : a.eval y = new.v) (t : TypeId) (hr : Box w t g old) (hi : (P.info? ty).map (·.size) = some 5)
    (h : ∀ w', Box w' t g new → w.grownBy w' (some g) → K (a.put o.dst undef) w') : o.wp P a w K Q := by
  refine wp_store_row ty x y ho g _ hx hy t _ hr hi rfl (by simp [Value.oneCell']) ?_
  exact h _ (setRow_heap w g _ _ t _ hr) ⟨rfl, rfl, rfl, by simp, fun j hj hne => setRow_other w g j _ (fun e => hne (by rw [e]))⟩
theorem wpList_store_box {P : Program} {ops : Array Oper} {rest : List Oper} {o : Oper} {a : Act} {w : World} {Q : Exit → Act → World → Prop} (hgd : o.guard = none) (ty : TypeId) (x y : Operand) (ho : o.op = .store ty x y)
    (g : Nat) (old new : TH) (hx : a.eval x = .pointer (some ⟨g, 0, none⟩)) (hy : a.eval y = new.v) (t : TypeId) (hr : Box w t g old) (hi : (P.info? ty).map (·.size) = some 5)
    (h : ∀ w', Box w' t g new → w.grownBy w' (some g) → wpList P ops Q rest (a.put o.dst undef) w') : wpList P ops Q (o :: rest) a w :=
  wpList_plain hgd fun _ hK => wp_store_box ty x y ho g old new hx hy t hr hi fun w' h1 h2 => hK _ _ (h w' h1 h2)
theorem step_store_box {P : Program} {ops : Array Oper} {o : Oper} {a : Act} {w : World} {K : Act → World → Prop} {Q : Exit → Act → World → Prop} {E : Prop} (hgd : o.guard = none) (ty : TypeId) (x y : Operand) (ho : o.op = .store ty x y)
    (g : Nat) (old new : TH) (hx : a.eval x = .pointer (some ⟨g, 0, none⟩)) (hy : a.eval y = new.v) (t : TypeId) (hr : Box w t g old) (hi : (P.info? ty).map (·.size) = some 5)
    (h : ∀ w', Box w' t g new → w.grownBy w' (some g) → K (a.put o.dst undef) w') : if Region.wanted o (yielded ops a.tmps) = true then Oper.wp P o a w K Q else E := by
  have hw : Region.wanted o (yielded ops a.tmps) = true := by simp [Region.wanted, hgd]
  rw [if_pos hw]
  exact wp_store_box ty x y ho g old new hx hy t hr hi h
theorem Box.grown {w w' : World} {ty : TypeId} {g : Nat} {h : TH} {row : Option Nat} (hx : Box w ty g h) (hg : w.grownBy w' row) (hne : some g ≠ row) : Box w' ty g h := (hg.block g hx.lt hne).trans hx
theorem Box.result {P : Program} {fn : Func} {p q : Tmp} {ty : TypeId} (hr : fn.results = #[.cell p ty, .tmp q]) (tmps : Array Value) {w : World} {g : Nat} {t : TypeId} {h : TH} {fs : Array Field} (hx : Box w t g h)
    (hp : tmps.getD p undef = .pointer (some ⟨g, 0, none⟩)) (hu : P.underlying ty = some (.struct fs)) (hi : (P.info? ty).map (·.size) = some 5) :
    (results fn tmps).run P w = .ok (.tuple #[h.v, tmps.getD q undef]) w := results_cell_tmp hr tmps w g t _ _ _ hp hx hu rfl hi

/-- Block g holds two trees' cells. -/
def Two5 (w : World) (ty : TypeId) (g : Nat) (h1 h2 : TH) : Prop := w.heap[g]? = some (.cells #[.int .i64 h1.k, .slice h1.ka h1.kn h1.kc, .slice h1.va h1.vn h1.vc, .slice h1.da h1.dn h1.dc, .slice h1.ta h1.tn h1.tc, .int .i64 h2.k, .slice h2.ka h2.kn h2.kc, .slice h2.va h2.vn h2.vc, .slice h2.da h2.dn h2.dc, .slice h2.ta h2.tn h2.tc] ty (0, 0))
theorem Two5.new (w : World) (ty : TypeId) (h1 h2 : TH) : Two5 (w.alloc (.cells #[.int .i64 h1.k, .slice h1.ka h1.kn h1.kc, .slice h1.va h1.vn h1.vc, .slice h1.da h1.dn h1.dc, .slice h1.ta h1.tn h1.tc, .int .i64 h2.k, .slice h2.ka h2.kn h2.kc, .slice h2.va h2.vn h2.vc, .slice h2.da h2.dn h2.dc, .slice h2.ta h2.tn h2.tc] ty)) ty w.heap.size h1 h2 := heap_alloc_new w _
theorem Two5.lt {w : World} {ty : TypeId} {g : Nat} {h1 h2 : TH} (hx : Two5 w ty g h1 h2) : g < w.heap.size := by
  rcases Nat.lt_or_ge g w.heap.size with hlt | hge
  · exact hlt
  · unfold Two5 at hx; rw [Array.getElem?_eq_none hge] at hx; cases hx
/-- A tree of two kids that lie side by side. -/
theorem inTree_pair {w : World} {ty : TypeId} {g : Nat} {h1 h2 : TH} {c1 c2 : Tr} (hx : Two5 w ty g h1 h2) (i1 : InTree w h1 c1) (i2 : InTree w h2 c2) {k : Int} (hk1 : -9223372036854775808 ≤ k) (hk2 : k ≤ 9223372036854775807)
    {ka va da : Option Addr} {kn kc vn vc dn dc : Nat} {key val dig : List Int} (hkey : InBytes w ka kn kc key) (hval : InBytes w va vn vc val) (hdig : InBytes w da dn dc dig) :
    InTree w ⟨k, ka, kn, kc, va, vn, vc, da, dn, dc, some ⟨g, 0, none⟩, 2, 2⟩ (.mk k key val dig [c1, c2]) := by
  refine .mk _ _ (fun i => if i = 0 then h1 else h2) rfl hk1 hk2 hkey hval hdig ⟨Nat.le_refl _, by simp [maxLen], (fun h => by cases h), fun _ => ⟨g, 0, rfl, hx.lt, fun i hi => ?_⟩⟩ rfl (fun i hi => ?_)
  · have hi' : i < 10 := hi
    rw [Nat.zero_add, cell_of_row w g i _ _ (0, 0) hx]
    rcases (by omega : i = 0 ∨ i = 1 ∨ i = 2 ∨ i = 3 ∨ i = 4 ∨ i = 5 ∨ i = 6 ∨ i = 7 ∨ i = 8 ∨ i = 9) with rfl | rfl | rfl | rfl | rfl | rfl | rfl | rfl | rfl | rfl <;> rfl
  · have hi' : i < 2 := hi
    rcases (by omega : i = 0 ∨ i = 1) with rfl | rfl
    · exact i1
    · exact i2
theorem InBytes.agree {w w' : World} {a : Option Addr} {n c : Nat} {zs : List Int} (h : InBytes w a n c zs) (hs : w.heap.size ≤ w'.heap.size) (ha : ∀ ad, a = some ad → w'.heap[ad.block]? = w.heap[ad.block]?) : InBytes w' a n c zs :=
  ⟨h.len, h.bytes, h.le, h.max, h.nil, fun h0 => by
    obtain ⟨g, off, e, hlt, hc⟩ := h.place h0
    exact ⟨g, off, e, Nat.lt_of_lt_of_le hlt hs, hc.keep fun o => World.cell?_of_block (a := ⟨g, o, none⟩) (ha ⟨g, off, none⟩ e)⟩⟩
/-- The tree c lies below the world wb, and in the blocks from lo on that lie below hi, as they are in w. -/
def From (wb : World) (lo hi : Nat) (w : World) (h : TH) (c : Tr) : Prop := ∀ W : World, Below wb.heap.size wb W → hi ≤ W.heap.size → (∀ j, lo ≤ j → j < hi → W.heap[j]? = w.heap[j]?) → InTree W h c
theorem From.self {wb w : World} {lo hi : Nat} {h : TH} {c : Tr} (f : From wb lo hi w h c) (hb : Below wb.heap.size wb w) (hs : hi ≤ w.heap.size) : InTree w h c := f w hb hs fun _ _ _ => rfl
theorem From.below {wb w w' : World} {lo hi : Nat} {h : TH} {c : Tr} (f : From wb lo hi w h c) (hb : Below w.heap.size w w') (hs : hi ≤ w.heap.size) : From wb lo hi w' h c := fun W h1 h2 h3 => f W h1 h2 fun j hl hh => (h3 j hl hh).trans (hb.block j (by omega))
end Go.Proofs.YtlbiefddcimdgaaDoor

/- A full tree does not lie in a box: what is written there leaves it as it is. No program is named here. -/
namespace Go.Proofs.YtlbiefddcimdgaaDoor
open Go.RowKit
set_option linter.unusedVariables false

theorem box_bytes' {W : World} {ty : TypeId} {g off : Nat} {hh : TH} {zs : List Int} (hb : Box W ty g hh) (hs : Seg .u8 W g off zs) (h0 : 0 < zs.length) : False := by
  have h1 := hs 0 h0
  rw [cell_of_row W g (off + 0) _ _ (0, 0) hb] at h1
  rcases (by omega : off = 0 ∨ off = 1 ∨ off = 2 ∨ off = 3 ∨ off = 4 ∨ 5 ≤ off) with rfl | rfl | rfl | rfl | rfl | h5
  · simp at h1
  · simp at h1
  · simp at h1
  · simp at h1
  · simp at h1
  · rw [Array.getElem?_eq_none (by simp; omega)] at h1
    cases h1
theorem InBytes.outBox {W W' : World} {ty : TypeId} {g : Nat} {hh : TH} {a : Option Addr} {n c : Nat} {zs : List Int} (h : InBytes W a n c zs) (hb : Box W ty g hh) (hg : W.grownBy W' (some g)) : InBytes W' a n c zs :=
  ⟨h.len, h.bytes, h.le, h.max, h.nil, fun h0 => by
    obtain ⟨g', off, e, hlt, hc⟩ := h.place h0
    have hne : some g' ≠ some g := fun q => by
      injection q with q
      subst q
      exact box_bytes' hb hc (by rw [h.len]; exact h0)
    exact ⟨g', off, e, Nat.lt_of_lt_of_le hlt hg.size, hc.keep fun o => World.cell?_of_block (a := ⟨g', o, none⟩) (hg.block g' hlt hne)⟩⟩
theorem AT.outBox {W W' : World} {ty : TypeId} {g : Nat} {hh : TH} (hb : Box W ty g hh) (hg : W.grownBy W' (some g)) : ∀ (a : AT) (h : TH), InTree W h a.tr → InTree W' h a.tr := by
  intro a
  induction a with
  | nil =>
    intro h ht
    obtain ⟨H, hp⟩ := ht.parts
    have h0 : h.tn = 0 := hp.len.symm
    exact .mk h _ H hp.hk hp.hk1 hp.hk2 (hp.key.outBox hb hg) (hp.val.outBox hb hg) (hp.dig.outBox hb hg) ⟨hp.sl.le, hp.sl.max, hp.sl.nil, fun q => by omega⟩ hp.len (fun i hi => absurd hi (Nat.not_lt_zero i))
  | node l k v r ihl ihr =>
    intro h ht
    obtain ⟨H, hp⟩ := ht.parts
    have h2 : h.tn = 2 := hp.len.symm
    refine .mk h _ H hp.hk hp.hk1 hp.hk2 (hp.key.outBox hb hg) (hp.val.outBox hb hg) (hp.dig.outBox hb hg) ⟨hp.sl.le, hp.sl.max, hp.sl.nil, fun q => ?_⟩ hp.len (fun i hi => ?_)
    · obtain ⟨g', off, e, hlt, hc⟩ := hp.sl.place q
      have hne : some g' ≠ some g := fun q => by
        injection q with q
        subst q
        have h9 := hc 9 (by omega)
        rw [cell_of_row W g' (off + 9) _ _ (0, 0) hb, Array.getElem?_eq_none (by simp)] at h9
        cases h9
      exact ⟨g', off, e, Nat.lt_of_lt_of_le hlt hg.size, fun i hi => (World.cell?_of_block (a := ⟨g', off + i, none⟩) (hg.block g' hlt hne)).trans (hc i hi)⟩
    · have hi' : i < 2 := hi
      rcases (by omega : i = 0 ∨ i = 1) with rfl | rfl
      · exact ihl _ (hp.kids 0 hi)
      · exact ihr _ (hp.kids 1 hi)
/-- A node of two trees that lie side by side. -/
theorem AT.inNode {w : World} {ty : TypeId} {g : Nat} {h1 h2 : TH} {a b : AT} (hx : Two5 w ty g h1 h2) (i1 : InTree w h1 a.tr) (i2 : InTree w h2 b.tr) {ka va : Option Addr} {kn kc vn vc : Nat} {key val : List Int} (hkey : InBytes w ka kn kc key) (hval : InBytes w va vn vc val) :
    InTree w ⟨1, ka, kn, kc, va, vn, vc, none, 0, 0, some ⟨g, 0, none⟩, 2, 2⟩ (AT.node a key val b).tr :=
  inTree_pair hx i1 i2 (by omega) (by omega) hkey hval (none_in w)
end Go.Proofs.YtlbiefddcimdgaaDoor

/- Rows of pairs of a key and a value. No program is named here. -/
namespace Go.Proofs.YtlbiefddcimdgaaDoor
open Go.RowKit
set_option linter.unusedVariables false

/-- The head of a pair: its two cells. -/
structure PH where
  ka : Option Addr
  kn : Nat
  kc : Nat
  va : Option Addr
  vn : Nat
  vc : Nat
def recP : Rec PH where
  cells := fun p => [.slice p.ka p.kn p.kc, .slice p.va p.vn p.vc]
  sz := 2
  pos := by omega
  len := fun _ => rfl
  one := fun r u hu => by
    simp at hu
    rcases hu with rfl | rfl <;> rfl
/-- A slice's cell. -/
def isSl (u : Value) : Prop := ∃ a n c, u = .slice a n c
/-- Heads and pairs, side by side. -/
def PairsIn (w : World) (ps : List PH) (kvs : List KV) : Prop := ps.length = kvs.length ∧ ∀ i (h1 : i < ps.length) (h2 : i < kvs.length), InBytes w (ps[i]).ka (ps[i]).kn (ps[i]).kc (kvs[i]).1 ∧ InBytes w (ps[i]).va (ps[i]).vn (ps[i]).vc (kvs[i]).2
theorem PairsIn.nil (w : World) : PairsIn w [] [] := ⟨rfl, fun i h1 => by simp at h1⟩
theorem PairsIn.snoc {w : World} {ps : List PH} {kvs : List KV} (h : PairsIn w ps kvs) {p : PH} {q : KV} (hk : InBytes w p.ka p.kn p.kc q.1) (hv : InBytes w p.va p.vn p.vc q.2) : PairsIn w (ps ++ [p]) (kvs ++ [q]) := by
  refine ⟨by simp [h.1], fun i h1 h2 => ?_⟩
  by_cases hi : i < ps.length
  · rw [List.getElem_append_left hi, List.getElem_append_left (by rw [← h.1]; exact hi)]
    exact h.2 i hi _
  · have e : i = ps.length := by rw [List.length_append] at h1; simp at h1; omega
    have e2 : i = kvs.length := by rw [e, h.1]
    have g1 : (ps ++ [p])[i] = p := by simp [e]
    have g2 : (kvs ++ [q])[i] = q := by simp [e2]
    rw [g1, g2]
    exact ⟨hk, hv⟩
theorem PairsIn.below {w w' : World} {ps : List PH} {kvs : List KV} (h : PairsIn w ps kvs) (hb : Below w.heap.size w w') : PairsIn w' ps kvs := ⟨h.1, fun i h1 h2 => ⟨(h.2 i h1 h2).1.below hb, (h.2 i h1 h2).2.below hb⟩⟩
end Go.Proofs.YtlbiefddcimdgaaDoor

/- Boxes of trees, results that are trees, strings of bytes: the types alone are named. -/
namespace Go.Proofs.YtlbiefddcimdgaaDoor
open Go.RowKit
set_option linter.unusedVariables false

theorem infoTree5 : (Tryd.prog.info? 27).map (·.size) = some 5 := by kernel_rfl
/-- It answers a full tree; what was there stays. -/
def Tells (w : World) (a : AT) (e : Ending) (w' : World) : Prop := ∃ h', e = .returned h'.v ∧ InTree w' h' a.tr ∧ Below w.heap.size w w'
theorem result_tree {P : Program} {fn : Func} {p : Tmp} {ty : TypeId} (h : fn.results = #[.cell p ty]) (tmps : Array Value) {w : World} {g : Nat} {t : TypeId} {hh : TH} {fs : Array Field} (hx : Box w t g hh)
    (hp : tmps.getD p undef = .pointer (some ⟨g, 0, none⟩)) (hu : P.underlying ty = some (.struct fs)) (hi : (P.info? ty).map (·.size) = some 5) : (results fn tmps).run P w = .ok hh.v w := by
  have hp' : tmps[p]?.getD undef = .pointer (some ⟨g, 0, none⟩) := by simpa using hp
  have hl := run_loadVar_row (P := P) w g t ty _ _ (.struct fs) hx hu rfl (by simpa using hi)
  simp [results, h, hp', asAddr, hl, TH.v]

/-- A tree's box, and the tree. -/
structure BW (w W : World) (h : TH) (t : Tr) : Prop where
  box : Box W 27 w.heap.size h
  ti : InTree W h t
  b : Below w.heap.size w W
theorem BW.below {w W W' : World} {h : TH} {t : Tr} (d : BW w W h t) (hb : Below W.heap.size W W') : BW w W' h t := ⟨d.box.below hb d.box.lt, d.ti.lower hb, d.b.trans (hb.mono d.b.size)⟩
theorem BW.drew {w W : World} {h : TH} {t : Tr} (d : BW w W h t) : BW w W.drew h t := d.below (Below.refl _ _).drew
theorem BW.new (w : World) {h : TH} {t : Tr} (ht : InTree w h t) : BW w (w.alloc (.cells #[.int .i64 h.k, .slice h.ka h.kn h.kc, .slice h.va h.vn h.vc, .slice h.da h.dn h.dc, .slice h.ta h.tn h.tc] 27)) h t := ⟨Box.new w _ h, ht.lower ((Below.refl _ _).alloc (Nat.le_refl _) _), (Below.refl _ _).alloc (Nat.le_refl _) _⟩
theorem Lim.node {l : AT} {k v : List Int} {r : AT} (h : Lim (AT.node l k v r).pairs) : Lim l.pairs ∧ k.length ≤ 80 ∧ v.length ≤ 1024 ∧ Lim r.pairs := by
  unfold Lim at *
  simp only [AT.pairs, List.mem_append, List.mem_cons] at h
  exact ⟨fun p hp => h p (.inl hp), (h _ (.inr (.inl rfl))).1, (h _ (.inr (.inl rfl))).2, fun p hp => h p (.inr (.inr hp))⟩

/-- What lies there while a tree is turned: its box, the result's box, the kid's box. -/
structure RX (w W : World) (h hk : TH) : Prop where
  box : Box W 27 w.heap.size h
  res : Box W 27 (w.heap.size + 1) hZ
  kb : Box W 27 (w.heap.size + 2) hk
  b : Below w.heap.size w W
theorem RX.below {w W W' : World} {h hk : TH} (d : RX w W h hk) (hb : Below W.heap.size W W') : RX w W' h hk := ⟨d.box.below hb d.box.lt, d.res.below hb d.res.lt, d.kb.below hb d.kb.lt, d.b.trans (hb.mono d.b.size)⟩
theorem RX.drew {w W : World} {h hk : TH} (d : RX w W h hk) : RX w W.drew h hk := d.below (Below.refl _ _).drew
theorem enter2 (w : World) (h : TH) : Box ((w.alloc (.cells #[.int .i64 h.k, .slice h.ka h.kn h.kc, .slice h.va h.vn h.vc, .slice h.da h.dn h.dc, .slice h.ta h.tn h.tc] 27)).alloc (.cells #[.int .i64 0, .slice none 0 0, .slice none 0 0, .slice none 0 0, .slice none 0 0] 27)) 27 w.heap.size h ∧ Box ((w.alloc (.cells #[.int .i64 h.k, .slice h.ka h.kn h.kc, .slice h.va h.vn h.vc, .slice h.da h.dn h.dc, .slice h.ta h.tn h.tc] 27)).alloc (.cells #[.int .i64 0, .slice none 0 0, .slice none 0 0, .slice none 0 0, .slice none 0 0] 27)) 27 (w.heap.size + 1) hZ ∧ Below w.heap.size w ((w.alloc (.cells #[.int .i64 h.k, .slice h.ka h.kn h.kc, .slice h.va h.vn h.vc, .slice h.da h.dn h.dc, .slice h.ta h.tn h.tc] 27)).alloc (.cells #[.int .i64 0, .slice none 0 0, .slice none 0 0, .slice none 0 0, .slice none 0 0] 27)) ∧ ((w.alloc (.cells #[.int .i64 h.k, .slice h.ka h.kn h.kc, .slice h.va h.vn h.vc, .slice h.da h.dn h.dc, .slice h.ta h.tn h.tc] 27)).alloc (.cells #[.int .i64 0, .slice none 0 0, .slice none 0 0, .slice none 0 0, .slice none 0 0] 27)).heap.size = w.heap.size + 2 := by
  have q1 : Below w.heap.size w (w.alloc (.cells #[.int .i64 h.k, .slice h.ka h.kn h.kc, .slice h.va h.vn h.vc, .slice h.da h.dn h.dc, .slice h.ta h.tn h.tc] 27)) := (Below.refl _ _).alloc (Nat.le_refl _) _
  have s1 : (w.alloc (.cells #[.int .i64 h.k, .slice h.ka h.kn h.kc, .slice h.va h.vn h.vc, .slice h.da h.dn h.dc, .slice h.ta h.tn h.tc] 27)).heap.size = w.heap.size + 1 := by simp
  have x1 := Box.new w 27 h
  have x2 : Box ((w.alloc (.cells #[.int .i64 h.k, .slice h.ka h.kn h.kc, .slice h.va h.vn h.vc, .slice h.da h.dn h.dc, .slice h.ta h.tn h.tc] 27)).alloc (.cells #[.int .i64 0, .slice none 0 0, .slice none 0 0, .slice none 0 0, .slice none 0 0] 27)) 27 (w.alloc (.cells #[.int .i64 h.k, .slice h.ka h.kn h.kc, .slice h.va h.vn h.vc, .slice h.da h.dn h.dc, .slice h.ta h.tn h.tc] 27)).heap.size hZ := Box.new _ 27 hZ
  rw [s1] at x2
  exact ⟨x1.below ((Below.refl _ _).alloc (Nat.le_refl _) _) x1.lt, x2, q1.alloc (by rw [s1]; omega) _, by simp⟩

/-- A tree's box, the result's box, and the tree. -/
structure LX (w W : World) (h : TH) (t : Tr) : Prop where
  box : Box W 27 w.heap.size h
  res : Box W 27 (w.heap.size + 1) hZ
  ti : InTree W h t
  b : Below w.heap.size w W
theorem LX.below {w W W' : World} {h : TH} {t : Tr} (d : LX w W h t) (hb : Below W.heap.size W W') : LX w W' h t := ⟨d.box.below hb d.box.lt, d.res.below hb d.res.lt, d.ti.lower hb, d.b.trans (hb.mono d.b.size)⟩
theorem LX.drew {w W : World} {h : TH} {t : Tr} (d : LX w W h t) : LX w W.drew h t := d.below (Below.refl _ _).drew

theorem conv_key {w : World} {a : Option Addr} {n cap : Nat} {bs : List Int} (h : InBytes w a n cap bs) :
    (convert 22 9 (.slice a n cap)).run Tryd.prog w = .ok (.string (strOfNums bs)) w :=
  conv_in (P := Tryd.prog) h 22 5 9 Tryd.underlying22 Tryd.underlying5 Tryd.underlying9
end Go.Proofs.YtlbiefddcimdgaaDoor

/- Errors that are Codes. -/
namespace Go.Proofs.YtlbiefddcimdgaaDoor
open Go.RowKit
set_option linter.unusedVariables false

/-- An error that is one of api's Codes, itself; 0: none. -/
def codeV (k : Nat) : Value := if k = 0 then .nilIface else .iface 56 (.int .i64 k)
theorem compCode : (Tryd.prog.info? 56).map (·.comparable) = some true := by kernel_rfl
theorem eql_code (a b : Int) (w : World) : (binOp .eql 32 (.iface 56 (.int .i64 a)) (.iface 56 (.int .i64 b))).run Tryd.prog w = .ok (.bool (a == b)) w :=
  Lib.run_eql_iface_int w a b Tryd.underlying32 compCode Tryd.underlying56

end Go.Proofs.YtlbiefddcimdgaaDoor

/- What the program's scan tells, as its contracts say it: the types alone are named. -/
namespace Go.Proofs.YtlbiefddcimdgaaDoor
open Go.RowKit
set_option linter.unusedVariables false

/-- The point of a key. -/
def Points (w : World) (key : List Int) (e : Ending) (w' : World) : Prop := ∃ h' : DH, e = .returned h'.v ∧ SpanIn w' h' key (key ++ [0]) ∧ h'.out = false ∧ Below w.heap.size w w'
/-- Values that may be written: bytes, from the block base on. -/
def ValsOK (W : World) (base : Nat) (ps : List PH) : Prop := ∀ i (h : i < ps.length), 0 < (ps[i]).vn → ∃ g off, (ps[i]).va = some ⟨g, off, none⟩ ∧ base ≤ g ∧ g < W.heap.size ∧ ∀ k, k < (ps[i]).vn → W.frozen? ⟨g, off + k, none⟩ = false ∧ ∃ z, W.cell? ⟨g, off + k, none⟩ = some (.int .u8 z) ∧ 0 ≤ z ∧ z ≤ 255
/-- Range's error. -/
def RangeBad (w : World) (e : Ending) (w' : World) : Prop := ∃ a c, e = .returned (.tuple #[.slice a 0 c, codeV 3]) ∧ Below w.heap.size w w'
/-- Range's pairs. -/
def RangeOk (w : World) (kvs : List KV) (e : Ending) (w' : World) : Prop := ∃ ra r rc rs, e = .returned (.tuple #[.slice ra r rc, .nilIface]) ∧ OwnR recP w' w.heap.size 53 (.slice ra r rc) rs ∧ rs.length = r ∧ PairsIn w' rs kvs ∧ ValsOK w' w.heap.size rs ∧ Below w.heap.size w w'
/-- A law's own box of its span; the span's bytes lie in w. -/
structure SX (w W : World) (sp : DH) (f t : List Int) : Prop where
  box : RBox recD W 24 w.heap.size sp
  s : SpanIn w sp f t
  b : Below w.heap.size w W
theorem SX.below {w W W' : World} {sp : DH} {f t : List Int} (x : SX w W sp f t) (hb : Below W.heap.size W W') : SX w W' sp f t := ⟨x.box.below hb x.box.lt, x.s, x.b.trans (hb.mono x.b.size)⟩
theorem SX.sp {w W : World} {sp : DH} {f t : List Int} (x : SX w W sp f t) : SpanIn W sp f t := x.s.below x.b
theorem SX.new (w : World) {sp : DH} {f t : List Int} (h : SpanIn w sp f t) : SX w (w.alloc (.cells #[.slice sp.ka sp.kn sp.kc, .slice sp.va sp.vn sp.vc, .bool sp.out] 24)) sp f t := ⟨DH.box w _ sp, h, (Below.refl _ _).alloc (Nat.le_refl _) _⟩
theorem infoSpan : (Tryd.prog.info? 24).map (·.size) = some 3 := by kernel_rfl
/-- In a point its key is alone. -/
theorem point_in {key other : List Int} (h : Bytes8 other) : inS key (key ++ [0]) false other = (other == key) := by
  unfold inS
  rw [Bool.false_or, lt_zero key other h]
  rcases ltL_three other key with c | c | c
  · rw [c, beq_eq_false_iff_ne.2 (ltL_ne c)]
    rfl
  · subst c
    rw [ltL_irr]
    simp
  · rw [c, beq_eq_false_iff_ne.2 (fun q => ltL_ne c q.symm)]
    simp
end Go.Proofs.YtlbiefddcimdgaaDoor

/- What is told of a span: keys of the proof, in the span; of a point's span one at most. No program is named here. -/
namespace Go.Proofs.YtlbiefddcimdgaaDoor
set_option linter.unusedVariables false

theorem scan_sub {f t : List Int} {o : Bool} : ∀ (l : List IT) (low : List Int) (has : Bool) (kv : List KV), scanI f t o low has l = some kv → (kv.map (·.1)).Sublist ((keysI l).map (·.key)) ∧ ∀ p ∈ kv, inS f t o p.1 = true := by
  intro l
  induction l with
  | nil =>
    intro low has kv h
    rw [scanI] at h
    injection h with h
    rw [← h]
    exact ⟨List.nil_sublist _, fun p hp => by cases hp⟩
  | cons x l ih =>
    intro low has kv h
    cases hc : x.cut with
    | true =>
      have ek : keysI (x :: l) = keysI l := by unfold keysI; rw [List.filter_cons, hc]; rfl
      rw [ek]
      rw [scan_cut hc] at h
      split at h
      · exact ih _ _ _ h
      · cases h
    | false =>
      have ek : keysI (x :: l) = x :: keysI l := by unfold keysI; rw [List.filter_cons, hc]; rfl
      rw [ek, List.map_cons]
      rw [scan_key hc] at h
      cases hi : inS f t o x.key with
      | true =>
        rw [hi, if_pos rfl] at h
        split at h
        · cases h
        · rw [Option.map_eq_some_iff] at h
          obtain ⟨r, hr, e⟩ := h
          obtain ⟨q1, q2⟩ := ih _ _ _ hr
          rw [← e, List.map_cons]
          refine ⟨q1.cons_cons _, fun p hp => ?_⟩
          rcases List.mem_cons.1 hp with rfl | hp
          · exact hi
          · exact q2 p hp
      | false =>
        rw [hi, if_neg (by simp)] at h
        obtain ⟨q1, q2⟩ := ih _ _ _ h
        exact ⟨q1.cons _, q2⟩
theorem rise_pair {l : List IT} (h : riseI l = true) : ((keysI l).map (·.key)).Pairwise fun p q => ltL p q = true := by
  unfold riseI at h
  rw [List.all_eq_true] at h
  have step : ∀ i (hi : i + 1 < (keysI l).length), ltL ((keysI l)[i]'(by omega)).key ((keysI l)[i + 1]).key = true := fun i hi => by
    have q := h (i + 1) (List.mem_range.2 hi)
    simp only [List.getD, List.getElem?_eq_getElem hi, Nat.add_sub_cancel, List.getElem?_eq_getElem (show i < (keysI l).length by omega), Option.getD_some] at q
    rw [Bool.or_eq_true] at q
    rcases q with q | q
    · simp at q
    · exact q
  rw [List.pairwise_iff_getElem]
  intro i j hi hj hij
  rw [List.length_map] at hi hj
  simp only [List.getElem_map]
  have far : ∀ d (hd : i + d + 1 < (keysI l).length), ltL ((keysI l)[i]'hi).key ((keysI l)[i + d + 1]).key = true := by
    intro d
    induction d with
    | zero => exact fun hd => step i hd
    | succ d ih => exact fun hd => ltL_trans (ih (by omega)) (step (i + d + 1) hd)
  have q := far (j - i - 1) (by omega)
  have e : i + (j - i - 1) + 1 = j := by omega
  simp only [e] at q
  exact q
/-- Of a point's span one pair at most is told. -/
theorem point_one {k : Nat} {root key : List Int} {p : Tr} {l : List KV} (hb : ∀ x ∈ keysI (itemsT p), Bytes8 x.key) (h : checkR k root key (key ++ [0]) false p = (0, l)) : l.length ≤ 1 := by
  unfold checkR at h
  split at h
  · rename_i c
    injection h with h
    exact absurd h c
  · split at h
    · injection h with h; cases h
    · split at h
      · injection h with h; cases h
      · split at h
        · injection h with h; cases h
        · rename_i hr
          split at h
          · injection h with h; cases h
          · rename_i kv hs
            injection h with _ h
            subst h
            obtain ⟨q1, q2⟩ := scan_sub _ _ _ _ hs
            have hr' : riseI (itemsT p) = true := by simpa using hr
            have hp := (rise_pair hr').sublist q1
            match kv, hp, q1, q2 with
            | [], _, _, _ => exact Nat.zero_le _
            | [_], _, _, _ => exact Nat.le_refl _
            | a :: b :: r, hp, q1, q2 =>
              exfalso
              have hmem : ∀ y ∈ ((a :: b :: r).map (·.1)), Bytes8 y := fun y hy => by
                obtain ⟨x, hx, e⟩ := List.mem_map.1 (q1.subset hy)
                rw [← e]
                exact hb x hx
              have ea := q2 a (by simp)
              have eb := q2 b (by simp)
              rw [point_in (hmem a.1 (by simp)), beq_iff_eq] at ea
              rw [point_in (hmem b.1 (by simp)), beq_iff_eq] at eb
              rw [List.map_cons, List.map_cons, List.pairwise_cons] at hp
              have q := hp.1 b.1 (by simp)
              rw [ea, eb, ltL_irr] at q
              cases q
end Go.Proofs.YtlbiefddcimdgaaDoor

/- Rows of one's own, of unlike types. -/
namespace Go.Proofs.YtlbiefddcimdgaaDoor
open Go.RowKit
set_option linter.unusedVariables false

/-- Rows of unlike types lie in unlike blocks. -/
theorem own_type {w : World} {base size n g : Nat} {e ty : TypeId} {v : Value} {xs : List Value} {cs : Array Value} {fr : Nat × Nat} (h : w.ownsRow base e size v n xs) (hg : v.ownBlock = some g) (hh : w.heap[g]? = some (.cells cs ty fr)) : ty = e := by
  rcases h.2 with ⟨rfl, _⟩ | ⟨g', c, cur, rfl, _, hq, _⟩
  · cases hg
  · have e1 : g' = g := Option.some.inj hg
    subst e1
    rw [hq] at hh
    injection hh with hh
    injection hh with _ hh
    exact hh.symm
theorem own_apart {w : World} {base base' size size' n n' : Nat} {e e' : TypeId} {v v' : Value} {xs xs' : List Value} (h : w.ownsRow base e size v n xs) (h' : w.ownsRow base' e' size' v' n' xs') (hne : e ≠ e') : v.ownBlock = none ∨ v.ownBlock ≠ v'.ownBlock := by
  rcases h.2 with ⟨rfl, _⟩ | ⟨g, c, cur, rfl, _, hq, _⟩
  · exact .inl rfl
  · right
    intro q
    exact hne (own_type h' q.symm hq)
theorem own_weak {w : World} {base base' size n : Nat} {e : TypeId} {v : Value} {xs : List Value} (h : w.ownsRow base e size v n xs) (hb : base' ≤ base) : w.ownsRow base' e size v n xs := by
  rcases h.2 with q | ⟨g, c, cur, q1, q2, q3⟩
  · exact ⟨h.1, .inl q⟩
  · exact ⟨h.1, .inr ⟨g, c, cur, q1, Nat.le_trans hb q2, q3⟩⟩
theorem own_in {w : World} {base n : Nat} {t : TypeId} {a : Option Addr} {m c : Nat} {zs : List Int} (h : w.ownsRow base t 1 (.slice a m c) n (zs.map (Value.int .u8))) (hb : Bytes8 zs) : InBytes w a m c zs := by
  obtain ⟨a', c', e, hi⟩ := own_any h hb
  injection e with e1 e2 e3
  subst e1 e2 e3
  exact hi
end Go.Proofs.YtlbiefddcimdgaaDoor

/- The contract of bytes.Compare: the order of byte strings. -/
namespace Go.Proofs.YtlbiefddcimdgaaDoor
open Go.RowKit
set_option linter.unusedVariables false

/-- -1, 0 or 1, by the order of two byte strings. -/
def ordL (xs ys : List Int) : Int := if ltL xs ys then -1 else if ltL ys xs then 1 else 0
theorem ordL_lt {xs ys : List Int} (h : ltL xs ys = true) : ordL xs ys = -1 := by unfold ordL; rw [if_pos h]
theorem ordL_gt {xs ys : List Int} (h : ltL ys xs = true) : ordL xs ys = 1 := by unfold ordL; rw [if_neg (by rw [ltL_asymm h]; simp), if_pos h]
theorem ordL_eq (xs : List Int) : ordL xs xs = 0 := by unfold ordL; rw [if_neg (by rw [ltL_irr]; simp), if_neg (by rw [ltL_irr]; simp)]
theorem cmp_ord : ∀ {xs ys : List Int}, Bytes8 xs → Bytes8 ys → Lib.compareBytes (xs.map fun n => UInt8.ofNat n.toNat) (ys.map fun n => UInt8.ofNat n.toNat) = ordL xs ys
  | [], [], _, _ => rfl
  | _ :: _, [], _, _ => rfl
  | [], _ :: _, _, _ => rfl
  | x :: xs, y :: ys, hx, hy => by
    have h1 := hx x (by simp)
    have h2 := hy y (by simp)
    have ih := cmp_ord (xs := xs) (ys := ys) (fun z hz => hx z (by simp [hz])) (fun z hz => hy z (by simp [hz]))
    rw [List.map_cons, List.map_cons, Lib.compareBytes, ih]
    have e1 : ∀ {a b : Int}, 0 ≤ a ∧ a ≤ 255 → 0 ≤ b ∧ b ≤ 255 → ((UInt8.ofNat a.toNat < UInt8.ofNat b.toNat) ↔ a < b) := fun ha hb => by
      rw [UInt8.lt_iff_toNat_lt]
      simp only [UInt8.toNat_ofNat']
      omega
    by_cases c1 : x < y
    · rw [if_pos ((e1 h1 h2).2 c1), ordL_lt (by simp [ltL, c1])]
    · rw [if_neg (fun q => c1 ((e1 h1 h2).1 q))]
      by_cases c2 : y < x
      · rw [if_pos ((e1 h2 h1).2 c2), ordL_gt (by simp [ltL, c2])]
      · rw [if_neg (fun q => c2 ((e1 h2 h1).1 q))]
        obtain rfl : x = y := by omega
        have e2 : ∀ p q : List Int, ltL (x :: p) (x :: q) = ltL p q := fun p q => by simp [ltL]
        unfold ordL
        rw [e2, e2]
theorem bytesOf_in {P : Program} {w : World} {a : Option Addr} {n cap : Nat} {bs : List Int} (h : InBytes w a n cap bs) : (Extern.Bytes.bytesOf (.slice a n cap)).run P w = .ok (strOfNums bs) w := by
  by_cases h0 : 0 < n
  · obtain ⟨g, off, rfl, _, hseg⟩ := h.place h0
    have hl := Lib.run_loadBytesX (P := P) w bs ⟨g, off, none⟩ .empty (fun j x hj => by
      have hjl : j < bs.length := (List.getElem?_eq_some_iff.1 hj).1
      have e : (⟨g, off, none⟩ : Addr).add j = ⟨g, off + j, none⟩ := by unfold Addr.add; split <;> simp_all
      rw [e, hseg j hjl]
      rw [List.getElem?_eq_getElem hjl] at hj
      injection hj with hj
      rw [hj])
    rw [h.len] at hl
    have e : (⟨ByteArray.empty.data ++ (Lib.bytesOf bs).toArray⟩ : ByteArray) = strOfNums bs := by
      apply ByteArray.ext
      show (#[] : Array UInt8) ++ (Lib.bytesOf bs).toArray = _
      simp [strOfNums, Lib.bytesOf]
    rw [e] at hl
    exact hl
  · have hn : n = 0 := by omega
    subst hn
    have hb : bs = [] := List.eq_nil_of_length_eq_zero h.len
    subst hb
    cases a with
    | none => rfl
    | some x => rfl
theorem run_compare {P : Program} {w : World} {a b : Option Addr} {n m c d : Nat} {xs ys : List Int} (hx : InBytes w a n c xs) (hy : InBytes w b m d ys) :
    (Extern.BytealgCompare.compare #[.slice a n c, .slice b m d]).run P w = .ok (.int .i64 (ordL xs ys)) w := by
  change Sem.run P (do pure (goInt (Extern.BytealgCompare.cmp (← Extern.Bytes.bytesOf (.slice a n c)) (← Extern.Bytes.bytesOf (.slice b m d))))) w = _
  simp only [Sem.run_bind, Sem.run_pure, bytesOf_in hx, bytesOf_in hy, Result.andThen]
  rw [Lib.cmp_eq, strOfNums_data, strOfNums_data, cmp_ord hx.bytes hy.bytes]
  rfl
theorem compare_fact {w : World} {a b : Option Addr} {n m c d : Nat} {xs ys : List Int} (hx : InBytes w a n c xs) (hy : InBytes w b m d ys) :
    (callFunc 81 #[.slice a n c, .slice b m d]).run Tryd.prog w = .ok (.value (.int .i64 (ordL xs ys))) w := by
  rw [run_callFunc_extern Tryd.func81 (by kernel_rfl) (by kernel_rfl) (by kernel_rfl) (e := Extern.BytealgCompare.compare) (by kernel_rfl), run_compare hx hy]
  rfl
set_option maxRecDepth 100000 in
/-- bytes.Compare: the world is as it was. -/
theorem compare_any (xs ys : List Int) (a b : Option Addr) (n m c d : Nat) (w : World) (hx : InBytes w a n c xs) (hy : InBytes w b m d ys) :
    Calls Tryd.prog 52 #[.slice a n c, .slice b m d] w fun e w' => e = .returned (.int .i64 (ordL xs ys)) ∧ w' = w := by
  have hc := compare_fact hx hy
  go_enter Tryd.func52, Tryd.ntmps52
  go_wp2
  go_ret
  exact ⟨rfl, rfl⟩
end Go.Proofs.YtlbiefddcimdgaaDoor

/- In a region that draws its order: what may be taken first. No program is named here. -/
namespace Go.Proofs.YtlbiefddcimdgaaDoor
open Go.RowKit
set_option linter.unusedVariables false

section
variable {P : Program} {md : Region.Mode} {ops : Array Oper} {Q : Exit → Act → World → Prop} {S : World → Prop}
/-- In a region that draws its order: an operation that yields v in every world that meets S is taken first. -/
theorem take_w {i : Nat} {oi : Oper} {v : Value} {fuel : Nat} {listed : Array Bool} {a : Act} {w : World} (hi : ops[i]? = some oi)
    (hs : Region.noSelect ops = true) (hf : Region.free md ops listed i = true) (hr : (Region.ready md ops listed).contains i = true)
    (hQ : ∀ c a w, Q (.panic c) (a.put oi.dst v) w → Q (.panic c) a w) (hw : Region.wanted oi (yielded ops a.tmps) = true) (hy : ∀ w, S w → (execOp a.eval oi).run P w = .ok (.value v) w) (hS : S w)
    (h : wpAnyH P md ops Q S fuel (listed.setIfInBounds i true) (a.put oi.dst v) w) : wpAnyH P md ops Q S (fuel + 1) listed a w :=
  wpAnyH_take hi hs hf hr hQ (.inl ⟨hw, hy⟩) hS h
/-- One whose guard is false. -/
theorem take_u {i : Nat} {oi : Oper} {fuel : Nat} {listed : Array Bool} {a : Act} {w : World} (hi : ops[i]? = some oi)
    (hs : Region.noSelect ops = true) (hf : Region.free md ops listed i = true) (hr : (Region.ready md ops listed).contains i = true)
    (hQ : ∀ c a w, Q (.panic c) (a.put oi.dst undef) w → Q (.panic c) a w) (hw : Region.wanted oi (yielded ops a.tmps) = false) (hS : S w)
    (h : wpAnyH P md ops Q S fuel (listed.setIfInBounds i true) (a.put oi.dst undef) w) : wpAnyH P md ops Q S (fuel + 1) listed a w :=
  wpAnyH_take hi hs hf hr hQ (.inr ⟨hw, rfl⟩) hS h
end
end Go.Proofs.YtlbiefddcimdgaaDoor

/- The contract of the program's In of spans. -/
namespace Go.Proofs.YtlbiefddcimdgaaDoor
open Go.RowKit
set_option linter.unusedVariables false

/-- Which of three numbers tells of an order. -/
theorem ord_is (xs ys : List Int) : (ltL xs ys = true ∧ ordL xs ys = -1) ∨ (ltL xs ys = false ∧ ordL xs ys = 0) ∨ (ltL xs ys = false ∧ ordL xs ys = 1) := by
  rcases ltL_three xs ys with c | c | c
  · exact .inl ⟨c, ordL_lt c⟩
  · subst c
    exact .inr (.inl ⟨ltL_irr _, ordL_eq _⟩)
  · exact .inr (.inr ⟨ltL_asymm c, ordL_gt c⟩)

set_option maxRecDepth 100000 in
set_option maxHeartbeats 4000000 in
theorem scanIn_any (h : DH) (f t key : List Int) (ka : Option Addr) (kn kc : Nat) (w : World) (hs : SpanIn w h f t) (hk : InBytes w ka kn kc key) : Calls Tryd.prog 22 #[h.v, .slice ka kn kc] w (Says w (.bool (inS f t h.out key))) := by
  unfold DH.v
  have q0 : Below w.heap.size w (w.alloc (.cells #[.slice h.ka h.kn h.kc, .slice h.va h.vn h.vc, .bool h.out] 24)) := (Below.refl _ _).alloc (Nat.le_refl _) _
  obtain ⟨x0, x1, x2⟩ := (DH.box w 24 h).three
  have HS := Lib.hid (hs.below q0)
  have HK := Lib.hid (hk.below q0)
  have HB := Lib.hid q0
  clear q0 hs hk
  have HE : Hid (inS f t h.out key = (!ltL key f && (h.out || ltL key t))) := Lib.hid rfl
  go_enter Tryd.func22, Tryd.ntmps22
  go_upto_region 1 with fail
  generalize (w.alloc (.cells #[.slice h.ka h.kn h.kc, .slice h.va h.vn h.vc, .bool h.out] 24)) = w0 at *
  generalize hio : inS f t h.out key = io at *
  clear hio
  generalize h.out = oo at *
  rcases ord_is key f with ⟨c0, o0⟩ | ⟨c0, o0⟩ | ⟨c0, o0⟩
  · have HO := Lib.hid o0
    have HC := Lib.hid c0
    clear o0 c0
    go_wp2_with (first
      | (go_at_call 52
         refine (compare_any key f _ _ _ _ _ _ _ HK.out HS.out.f).mono ?_
         rintro _ w1 ⟨rfl, hw1⟩
         rw [hw1]
         clear hw1
         rw [HO.out]))
    go_ret
    exact ⟨by rw [HE.out, HC.out]; rfl, HB.out⟩
  all_goals
    have HO := Lib.hid o0
    have HC := Lib.hid c0
    clear o0 c0
    cases oo with
    | true =>
      go_wp2_with (first
        | (go_at_call 52
           refine (compare_any key f _ _ _ _ _ _ _ HK.out HS.out.f).mono ?_
           rintro _ w1 ⟨rfl, hw1⟩
           rw [hw1]
           clear hw1
           rw [HO.out]))
      go_ret
      exact ⟨by rw [HE.out, HC.out]; rfl, HB.out⟩
    | false =>
      rcases ord_is key t with ⟨c1, o1⟩ | ⟨c1, o1⟩ | ⟨c1, o1⟩
      all_goals
        have HO1 := Lib.hid o1
        have HC1 := Lib.hid c1
        clear o1 c1
        go_wp2_with (first
          | (go_at_call 52
             refine (compare_any key f _ _ _ _ _ _ _ HK.out HS.out.f).mono ?_
             rintro _ w1 ⟨rfl, hw1⟩
             rw [hw1]
             clear hw1
             rw [HO.out])
          | (go_at_call 52
             refine (compare_any key t _ _ _ _ _ _ _ HK.out HS.out.t).mono ?_
             rintro _ w1 ⟨rfl, hw1⟩
             rw [hw1]
             clear hw1
             rw [HO1.out]))
        go_ret
        exact ⟨by rw [HE.out, HC.out, HC1.out]; rfl, HB.out⟩
end Go.Proofs.YtlbiefddcimdgaaDoor

/- The contract of bytes.Clone. -/
namespace Go.Proofs.YtlbiefddcimdgaaDoor
open Go.RowKit
set_option linter.unusedVariables false

/-- A slice of new memory, or nil, that holds the bytes bs. -/
def NewBytes (w : World) (bs : List Int) (e : Ending) (w' : World) : Prop :=
  ∃ a2 c2, e = .returned (.slice a2 bs.length c2) ∧ InBytes w' a2 bs.length c2 bs ∧ (∀ ad, a2 = some ad → w.heap.size ≤ ad.block ∧ ad.block < w'.heap.size) ∧ Below w.heap.size w w'
set_option maxRecDepth 100000 in
set_option maxHeartbeats 2000000 in
theorem clone_any (a : Option Addr) (n cap : Nat) (bs : List Int) (w : World) (hin : InBytes w a n cap bs) (hn : n ≤ 140737488355328) :
    Calls Tryd.prog 45 #[.slice a n cap] w (NewBytes w bs) := by
  obtain ⟨i0, hi0, hz0, hz1, hz2⟩ := info_parts infoU8
  have hq : ∀ (w : World) (a : Option Addr) (n c n' c' : Nat), (binOp .eql 22 (.slice a n c) (.slice none n' c')).run Tryd.prog w = .ok (.bool a.isNone) w := fun w a n c n' c' => Lib.run_eql_slice_nil w _ _ a n c n' c' Tryd.underlying22
  have HIN := Lib.hid hin
  clear hin
  go_enter Tryd.func45, Tryd.ntmps45
  cases a with
  | none =>
    have hc := HIN.out.nil rfl
    have hk : n = 0 := by have := HIN.out.le; omega
    subst hc
    subst hk
    have hr : bs = [] := List.eq_nil_of_length_eq_zero HIN.out.len
    subst hr
    have e : (none : Option Addr).isNone = true := rfl
    go_wp2_with fail
    go_ret
    exact ⟨none, 0, rfl, none_in _, (fun ad h => by cases h), Below.refl _ _⟩
  | some ad =>
    have e : (some ad : Option Addr).isNone = false := rfl
    have hl := HIN.out.len
    go_wp2_with (first
      | (at_builtin
         refine wpList_append_bytes' _ rfl (.tmp 5) (.tmp 6) 22 rfl w.heap.size 5 i0 _ 1 Tryd.underlying22 hi0 hz0 hz1 hz2 rfl w.heap.size 0 0 [] rfl (own_new w 5 .u8 [] w.heap.size (Nat.le_refl _) (by simp [maxLen])) (some ad) n cap bs rfl (HIN.out.below ((Below.refl _ _).alloc (Nat.le_refl _) _)) (by simp only [maxLen]; omega) (by omega) (by simp) ?_
         intro g1 c1 w1 hown1 hg1
         have HO1 := Lib.hid hown1
         have HB1 : Hid (Below w.heap.size w w1) := Lib.hid (below_only ((Below.refl _ _).alloc (Nat.le_refl _) _) hg1 (by simp) (Nat.le_refl _))
         clear hown1 hg1))
    go_ret
    have ho := HO1.out
    rw [List.nil_append, Nat.zero_add] at ho
    refine ⟨some ⟨g1, 0, none⟩, c1, by rw [hl]; rfl, by rw [hl]; exact InBytes.of_own ho HIN.out.bytes, fun ad h => ?_, HB1.out⟩
    injection h with h
    rw [← h]
    exact ho.lt g1 rfl
end Go.Proofs.YtlbiefddcimdgaaDoor

/- bytes.Clone, as a row of one's own. -/
namespace Go.Proofs.YtlbiefddcimdgaaDoor
open Go.RowKit
set_option linter.unusedVariables false

/-- A row of new memory, or nil, that holds the bytes bs. -/
def OwnBytes (w : World) (bs : List Int) (e : Ending) (w' : World) : Prop :=
  ∃ v, e = .returned v ∧ w'.ownsRow w.heap.size 5 1 v bs.length (bs.map (Value.int .u8)) ∧ Below w.heap.size w w'
set_option maxRecDepth 100000 in
set_option maxHeartbeats 2000000 in
theorem clone_own (a : Option Addr) (n cap : Nat) (bs : List Int) (w : World) (hin : InBytes w a n cap bs) (hn : n ≤ 140737488355328) :
    Calls Tryd.prog 45 #[.slice a n cap] w (OwnBytes w bs) := by
  obtain ⟨i0, hi0, hz0, hz1, hz2⟩ := info_parts infoU8
  have hq : ∀ (w : World) (a : Option Addr) (n c n' c' : Nat), (binOp .eql 22 (.slice a n c) (.slice none n' c')).run Tryd.prog w = .ok (.bool a.isNone) w := fun w a n c n' c' => Lib.run_eql_slice_nil w _ _ a n c n' c' Tryd.underlying22
  have HIN := Lib.hid hin
  clear hin
  go_enter Tryd.func45, Tryd.ntmps45
  cases a with
  | none =>
    have hc := HIN.out.nil rfl
    have hk : n = 0 := by have := HIN.out.le; omega
    subst hc
    subst hk
    have hr : bs = [] := List.eq_nil_of_length_eq_zero HIN.out.len
    subst hr
    have e : (none : Option Addr).isNone = true := rfl
    go_wp2_with fail
    go_ret
    exact ⟨_, rfl, ⟨rfl, .inl ⟨rfl, rfl⟩⟩, Below.refl _ _⟩
  | some ad =>
    have e : (some ad : Option Addr).isNone = false := rfl
    have hl := HIN.out.len
    go_wp2_with (first
      | (at_builtin
         refine wpList_append_bytes' _ rfl (.tmp 5) (.tmp 6) 22 rfl w.heap.size 5 i0 _ 1 Tryd.underlying22 hi0 hz0 hz1 hz2 rfl w.heap.size 0 0 [] rfl (own_new w 5 .u8 [] w.heap.size (Nat.le_refl _) (by simp [maxLen])) (some ad) n cap bs rfl (HIN.out.below ((Below.refl _ _).alloc (Nat.le_refl _) _)) (by simp only [maxLen]; omega) (by omega) (by simp) ?_
         intro g1 c1 w1 hown1 hg1
         have HO1 := Lib.hid hown1
         have HB1 : Hid (Below w.heap.size w w1) := Lib.hid (below_only ((Below.refl _ _).alloc (Nat.le_refl _) _) hg1 (by simp) (Nat.le_refl _))
         clear hown1 hg1))
    go_ret
    have ho := HO1.out
    rw [List.nil_append, Nat.zero_add] at ho
    exact ⟨_, rfl, by rw [hl]; exact ho, HB1.out⟩

theorem own_ge {w : World} {base size n j : Nat} {t : TypeId} {v : Value} {xs : List Value} (h : w.ownsRow base t size v n xs) (hj : v.ownBlock = some j) : base ≤ j := by
  rcases h.2 with ⟨rfl, _⟩ | ⟨g, c, _, rfl, hg, _⟩
  · cases hj
  · have e : g = j := Option.some.inj hj
    omega
end Go.Proofs.YtlbiefddcimdgaaDoor

/- The contract of the document's In of spans. -/
namespace Go.Proofs.YtlbiefddcimdgaaDoor
open Go.RowKit
set_option linter.unusedVariables false

set_option maxRecDepth 100000 in
set_option maxHeartbeats 4000000 in
theorem refIn_any (h : DH) (f t key : List Int) (ka : Option Addr) (kn kc : Nat) (w : World) (hs : SpanIn w h f t) (hk : InBytes w ka kn kc key) : Calls Tryd.prog 36 #[h.v, .slice ka kn kc] w (Says w (.bool (inS f t h.out key))) := by
  unfold DH.v
  have q0 : Below w.heap.size w (w.alloc (.cells #[.slice h.ka h.kn h.kc, .slice h.va h.vn h.vc, .bool h.out] 24)) := (Below.refl _ _).alloc (Nat.le_refl _) _
  obtain ⟨x0, x1, x2⟩ := (DH.box w 24 h).three
  have cv0 := conv_key (hs.below q0).f
  have cv1 := conv_key (hs.below q0).t
  have cv2 := conv_key (hk.below q0)
  have hl0 : Op.bytesLess (strOfNums f).toList (strOfNums key).toList = ltL f key := str_lt hs.f.bytes hk.bytes
  have he0 : ((strOfNums f).toList == (strOfNums key).toList) = (f == key) := str_eq hs.f.bytes hk.bytes
  have hl1 : Op.bytesLess (strOfNums key).toList (strOfNums t).toList = ltL key t := str_lt hk.bytes hs.t.bytes
  have hle := le_not f key
  have HB := Lib.hid q0
  clear q0 hs hk
  have HE : Hid (inS f t h.out key = (!ltL key f && (h.out || ltL key t))) := Lib.hid rfl
  go_enter Tryd.func36, Tryd.ntmps36
  go_upto_region 1 with fail
  generalize (w.alloc (.cells #[.slice h.ka h.kn h.kc, .slice h.va h.vn h.vc, .bool h.out] 24)) = w0 at *
  generalize hio : inS f t h.out key = io at *
  clear hio
  generalize h.out = oo at *
  rw [← he0, ← hl0] at hle
  clear he0 hl0
  cases c0 : ltL key f with
  | true =>
    have HC0 := Lib.hid c0
    rw [c0, Bool.not_true] at hle
    clear c0
    go_wp2_with fail
    go_ret
    exact ⟨by rw [HE.out, HC0.out]; rfl, HB.out⟩
  | false =>
    have HC0 := Lib.hid c0
    rw [c0, Bool.not_false] at hle
    clear c0
    cases oo with
    | true =>
      go_wp2_with fail
      go_ret
      exact ⟨by rw [HE.out, HC0.out]; rfl, HB.out⟩
    | false =>
      go_wp2_with fail
      go_ret
      exact ⟨by rw [HE.out, HC0.out]; rfl, HB.out⟩
end Go.Proofs.YtlbiefddcimdgaaDoor

/- The contract of the document's list of nodes. -/
namespace Go.Proofs.YtlbiefddcimdgaaDoor
open Go.RowKit
set_option linter.unusedVariables false

theorem infoTree2 : (Tryd.prog.info? 27).map (fun i => (i.zero, i.size, i.bytes)) = some (some (.agg #[.int .i64 0, .slice none 0 0, .slice none 0 0, .slice none 0 0, .slice none 0 0]), 5, 104) := by kernel_rfl
theorem count_two {t : Tr} (h2 : t.kids.length = 2) : countT t = 1 + countT (t.kids[0]'(by omega)) + countT (t.kids[1]'(by omega)) := by
  rw [countT_eq, sum_two (by rw [List.length_map]; exact h2), List.getElem_map, List.getElem_map]
  omega
theorem list_len : ∀ t : Tr, formedT t = true → (listT t).length ≤ countT t := by
  intro t
  induction t using Tr.ind with
  | h t ih =>
  intro hf
  obtain ⟨hp, hk⟩ := formed_kids hf
  rcases part_kids hp with ⟨h0, _⟩ | ⟨h2, _⟩
  · rw [listT_0 h0]
    exact Nat.zero_le _
  · rw [listT_2 h2, count_two h2]
    have i0 := ih _ (List.getElem_mem (by omega : 0 < t.kids.length)) (hk 0 (by omega))
    have i1 := ih _ (List.getElem_mem (by omega : 1 < t.kids.length)) (hk 1 (by omega))
    simp only [List.length_append, List.length_cons]
    omega

set_option maxRecDepth 100000 in
set_option maxHeartbeats 4000000 in
theorem refList_any : ∀ (t : Tr) (h : TH) (wb w : World), InTree wb h t → Below wb.heap.size wb w → formedT t = true → countT t ≤ 500 →
    Calls Tryd.prog 53 #[h.v] w (fun e w' => ∃ v hs, e = .returned v ∧ OwnT w' w.heap.size 27 v hs ∧ Heads wb hs (listT t) ∧ Below w.heap.size w w') := by
  intro t
  induction t using Tr.ind with
  | h t ih =>
  intro h wb w ht hbw hf hcn
  obtain ⟨hpb, hfk⟩ := formed_kids hf
  unfold TH.v
  obtain ⟨H, hp⟩ := ht.parts
  have htl := hp.len
  have htm := Nat.le_trans hp.sl.le hp.sl.max
  have htc := hp.sl.le
  simp only [maxLen] at htm
  have HP := Lib.hid hp
  have HTT := Lib.hid ht
  have IH := Lib.hid ih
  have HBW := Lib.hid hbw
  have hbox := Box.new w 27 h
  have HX := Lib.hid hbox
  obtain ⟨x0, x1, x2, x3, x4⟩ := hbox.cells
  have hw1 : Below w.heap.size w (w.alloc (.cells #[.int .i64 h.k, .slice h.ka h.kn h.kc, .slice h.va h.vn h.vc, .slice h.da h.dn h.dc, .slice h.ta h.tn h.tc] 27)) := (Below.refl _ _).alloc (Nat.le_refl _) _
  have HB := Lib.hid hw1
  clear hbox hw1 hp ht ih hbw
  obtain ⟨ti, hti, htz⟩ := Option.map_eq_some_iff.1 infoTree2
  simp only [Prod.mk.injEq] at htz
  obtain ⟨hz0, hz1, hz2⟩ := htz
  go_enter Tryd.func53, Tryd.ntmps53
  rcases part_kids hpb with ⟨h0, _⟩ | ⟨h2, _⟩
  · have htn : ((h.tn : Int) == 0) = true := by simp; omega
    go_wp2_with fail
    go_ret
    exact ⟨_, [], rfl, OwnT.nil _ _ _, by rw [listT_0 h0]; exact Heads.nil wb, HB.out⟩
  · have htn : ((h.tn : Int) == 0) = false := by simp; omega
    have l0 : 0 < t.kids.length := by omega
    have l1 : 1 < t.kids.length := by omega
    have hct := count_two h2
    have ll0 := list_len _ (hfk 0 l0)
    have ll1 := list_len _ (hfk 1 l1)
    have HL := Lib.hid (listT_2 h2)
    have HF := Lib.hid hfk
    have c0 : countT t.kids[0] ≤ 500 := by omega
    have c1 : countT t.kids[1] ≤ 500 := by omega
    have cc : countT t.kids[0] + countT t.kids[1] ≤ 500 := by omega
    clear hfk hf hct
    go_upto_region 3 with fail
    generalize hw0 : w.alloc (.cells #[.int .i64 h.k, .slice h.ka h.kn h.kc, .slice h.va h.vn h.vc, .slice h.da h.dn h.dc, .slice h.ta h.tn h.tc] 27) = w0 at *
    have hs0 : w0.heap.size = w.heap.size + 1 := by rw [← hw0]; simp
    have HS := Lib.hid hs0
    have HBB : Hid (Below wb.heap.size wb w0) := Lib.hid (HBW.out.trans (HB.out.mono HBW.out.size))
    obtain ⟨g, off, hta, hg, -⟩ := (HP.out.below HBB.out).place (by omega)
    have HTA := Lib.hid hta
    rw [hta]
    clear x0 x1 x2 x3 x4 hw0 hs0 hta hg
    have ht1 : (1 : Int) < (h.tn : Int) := by omega
    have ht0 : 0 < h.tn := by omega
    have hb1 : Below w0.heap.size w0 (w0.alloc (.cells #[] 27)) := (Below.refl _ _).alloc (Nat.le_refl _) _
    have x4 := ((HX.out.below hb1 HX.out.lt).cells.2.2.2.2).trans (by rw [HTA.out])
    obtain ⟨k0, k1, k2, k3, k4⟩ := (HP.out.below (HBB.out.trans (hb1.mono HBB.out.size))).kid0 HTA.out ht0
    have HE := Lib.hid (OwnT.empty w0 27 w0.heap.size (Nat.le_refl _))
    have HB1 := Lib.hid hb1
    clear hb1
    go_upto_region 4 with (first
    | (go_at_call 53
       refine (IH.out _ (List.getElem_mem l0) (H 0) wb _ (HP.out.kids 0 l0) (HBB.out.trans (HB1.out.mono HBB.out.size)) (HF.out 0 l0) c0).mono ?_
       rintro _ w2 ⟨v2, hs2, rfl, ho2, hh2, hb2⟩
       have HB2 : Hid (Below w0.heap.size w0 w2) := Lib.hid (HB1.out.trans (hb2.mono HB1.out.size))
       have HE2 := Lib.hid (HE.out.keep hb2)
       have HO2 := Lib.hid ho2
       have hl2 := hh2.1
       have HH2 := Lib.hid hh2
       clear ho2 hh2 hb2)
    | (at_builtin
       refine wpList_append_trees _ rfl (.tmp 8) (.tmp 13) 25 rfl w0.heap.size 27 ti _ 104 Tryd.underlying25 hti hz0 hz1 hz2 rfl (.slice (some ⟨w0.heap.size, 0, none⟩) 0 0) [] rfl HE2.out _ v2 hs2 rfl HO2.out (by simp only [List.length_nil]; omega) (by omega) HB2.out.size ?_
       intro v3 w3 ho3 hg3 _
       have HB3 : Hid (Below w0.heap.size w0 w3) := Lib.hid (HB2.out.grown hg3 HB2.out.size (fun j hj => by have hj' : some w0.heap.size = some j := hj; injection hj' with hj'; omega))
       have HO3 := Lib.hid ho3
       clear ho3 hg3))
    clear x4 k0 k1 k2 k3 k4 HE HE2 HO2
    have hx3 := HX.out.below HB3.out HX.out.lt
    obtain ⟨x0, x1, x2, x3, x4⟩ := hx3.cells
    have hb4 : Below w3.heap.size w3 (w3.alloc (.cells #[.int .i64 h.k, .slice h.ka h.kn h.kc, .slice h.va h.vn h.vc, .slice h.da h.dn h.dc, .slice h.ta h.tn h.tc] 27)) := (Below.refl _ _).alloc (Nat.le_refl _) _
    have HO4 := Lib.hid (HO3.out.keep hb4)
    have HN4 := Lib.hid (OwnT.one (Box.new w3 27 h) (Nat.le_refl _))
    have HB4 : Hid (Below w0.heap.size w0 (w3.alloc (.cells #[.int .i64 h.k, .slice h.ka h.kn h.kc, .slice h.va h.vn h.vc, .slice h.da h.dn h.dc, .slice h.ta h.tn h.tc] 27))) := Lib.hid (HB3.out.trans (hb4.mono HB3.out.size))
    clear hx3 hb4
    rw [HTA.out] at x4 HO4 HN4 HB4
    go_upto_region 5 with (first
    | (at_builtin
       refine wpList_append_trees _ rfl (.tmp 15) (.tmp 17) 25 rfl w0.heap.size 27 ti _ 104 Tryd.underlying25 hti hz0 hz1 hz2 rfl v3 ([] ++ hs2) rfl HO4.out _ (.slice (some ⟨w3.heap.size, 0, none⟩) 1 1) [h] rfl HN4.out (by simp only [List.nil_append, List.length_cons, List.length_nil]; omega) (by omega) HB4.out.size ?_
       intro v5 w5 ho5 hg5 _
       have HB5 : Hid (Below w0.heap.size w0 w5) := Lib.hid (HB4.out.grown hg5 HB4.out.size (fun j hj => (HO4.out.lt j hj).1))
       have HO5 := Lib.hid ho5
       clear ho5 hg5))
    clear x0 x1 x2 x3 x4 HO3 HO4 HN4
    have x4 := ((HX.out.below HB5.out HX.out.lt).cells.2.2.2.2).trans (by rw [HTA.out])
    obtain ⟨k0, k1, k2, k3, k4⟩ := (HP.out.below (HBB.out.trans (HB5.out.mono HBB.out.size))).kid1 HTA.out (by omega)
    go_wp2_with (first
    | (go_at_call 53
       refine (IH.out _ (List.getElem_mem l1) (H 1) wb _ (HP.out.kids 1 l1) (HBB.out.trans (HB5.out.mono HBB.out.size)) (HF.out 1 l1) c1).mono ?_
       rintro _ w6 ⟨v6, hs6, rfl, ho6, hh6, hb6⟩
       have HB6 : Hid (Below w0.heap.size w0 w6) := Lib.hid (HB5.out.trans (hb6.mono HB5.out.size))
       have HE6 := Lib.hid (HO5.out.keep hb6)
       have HO6 := Lib.hid ho6
       have hl6 := hh6.1
       have HH6 := Lib.hid hh6
       clear ho6 hh6 hb6)
    | (at_builtin
       refine wpList_append_trees _ rfl (.tmp 19) (.tmp 24) 25 rfl w0.heap.size 27 ti _ 104 Tryd.underlying25 hti hz0 hz1 hz2 rfl v5 ([] ++ hs2 ++ [h]) rfl HE6.out _ v6 hs6 rfl HO6.out (by simp only [List.nil_append, List.length_append, List.length_cons, List.length_nil]; omega) (by omega) HB6.out.size ?_
       intro v7 w7 ho7 hg7 _
       have HB7 : Hid (Below w0.heap.size w0 w7) := Lib.hid (HB6.out.grown hg7 HB6.out.size (fun j hj => (HE6.out.lt j hj).1))
       have HO7 := Lib.hid ho7
       clear ho7 hg7))
    go_ret
    refine ⟨v7, [] ++ hs2 ++ [h] ++ hs6, rfl, HO7.out.weak (by rw [HS.out]; omega), ?_, HB.out.trans (HB7.out.mono (by rw [HS.out]; omega))⟩
    rw [HL.out, List.nil_append, List.append_assoc]
    exact HH2.out.app ((Heads.one HTT.out).app HH6.out)
end Go.Proofs.YtlbiefddcimdgaaDoor

/- Rows of trees: the cells of the i-th; their heads. No program is named here. -/
namespace Go.Proofs.YtlbiefddcimdgaaDoor
open Go.RowKit
set_option linter.unusedVariables false

/-- The cells of the i-th tree of a row. -/
theorem OwnT.at {W : World} {base : Nat} {ty : TypeId} {a : Option Addr} {n c : Nat} {hs : List TH} (h : OwnT W base ty (.slice a n c) hs) (hl : hs.length = n) (i : Nat) (hi : i < hs.length) :
    ∃ g, a = some ⟨g, 0, none⟩ ∧ W.cell? ⟨g, i * 5, none⟩ = some (.int .i64 (hs[i]).k) ∧ W.cell? ⟨g, i * 5 + 1, none⟩ = some (.slice (hs[i]).ka (hs[i]).kn (hs[i]).kc) ∧ W.cell? ⟨g, i * 5 + 2, none⟩ = some (.slice (hs[i]).va (hs[i]).vn (hs[i]).vc) ∧ W.cell? ⟨g, i * 5 + 3, none⟩ = some (.slice (hs[i]).da (hs[i]).dn (hs[i]).dc) ∧ W.cell? ⟨g, i * 5 + 4, none⟩ = some (.slice (hs[i]).ta (hs[i]).tn (hs[i]).tc) := by
  rcases h.form with ⟨_, h2⟩ | ⟨g, c', h1, _, _, _, _, hc⟩
  · rw [h2] at hi
    simp at hi
  · injection h1 with h1
    refine ⟨g, h1, ?_, ?_, ?_, ?_, ?_⟩
    · exact hc _ _ (cellsT_get hs i 0 hi (by omega))
    · exact hc _ _ (cellsT_get hs i 1 hi (by omega))
    · exact hc _ _ (cellsT_get hs i 2 hi (by omega))
    · exact hc _ _ (cellsT_get hs i 3 hi (by omega))
    · exact hc _ _ (cellsT_get hs i 4 hi (by omega))
theorem Heads.lower {w w' : World} {hs : List TH} {ts : List Tr} (h : Heads w hs ts) (hb : Below w.heap.size w w') : Heads w' hs ts := ⟨h.1, fun i h1 h2 => (h.2 i h1 h2).lower hb⟩
end Go.Proofs.YtlbiefddcimdgaaDoor

/- The row of a tree's nodes, and the i-th of them. No program is named here. -/
namespace Go.Proofs.YtlbiefddcimdgaaDoor
open Go.RowKit
set_option linter.unusedVariables false

/-- The i-th node of a full tree. -/
theorem AT.node_at (a : AT) (i : Nat) (hi : i < (listT a.tr).length) : ∃ l k v r, (listT a.tr)[i] = (AT.node l k v r).tr ∧ (listT a.tr).getD i (.mk 0 [] [] [] []) = (AT.node l k v r).tr ∧ AT.node l k v r ∈ a.nodes ∧ a.pairs[i]? = some (k, v) := by
  have e := AT.tr_list a
  have hi2 : i < a.nodes.length := by rw [e] at hi; simpa using hi
  cases hn : a.nodes[i] with
  | nil => exact absurd (AT.nodes_node a _ (List.getElem_mem hi2)) (by rw [hn]; simp [AT.isNil])
  | node l k v r =>
    have h1 : (listT a.tr)[i] = (AT.node l k v r).tr := by
      simp only [e, List.getElem_map, hn]
    refine ⟨l, k, v, r, h1, ?_, by rw [← hn]; exact List.getElem_mem hi2, ?_⟩
    · rw [List.getD, List.getElem?_eq_getElem hi, Option.getD_some, h1]
    · rw [← AT.nodes_kv, List.getElem?_map, List.getElem?_eq_getElem hi2, hn]
      rfl
theorem check_zeroR {t : Tr} (h : checkT t = 0) : formedT t = true ∧ deepT t 64 = false := by
  unfold checkT at h
  split at h
  · cases h
  · split at h
    · exact ⟨by assumption, by rename_i q _; simpa using q⟩
    · cases h
/-- A row of trees, and the memory that was there. -/
structure LS (w W : World) (a : Option Addr) (n c : Nat) (hs : List TH) (ts : List Tr) : Prop where
  o : OwnT W w.heap.size 27 (.slice a n c) hs
  hh : Heads W hs ts
  b : Below w.heap.size w W
theorem LS.cells {w W : World} {g n c : Nat} {hs : List TH} {ts : List Tr} (x : LS w W (some ⟨g, 0, none⟩) n c hs ts) (hl : hs.length = n) (i : Nat) (hi : i < hs.length) : W.cell? ⟨g, i * 5, none⟩ = some (.int .i64 (hs[i]).k) ∧ W.cell? ⟨g, i * 5 + 1, none⟩ = some (.slice (hs[i]).ka (hs[i]).kn (hs[i]).kc) ∧ W.cell? ⟨g, i * 5 + 2, none⟩ = some (.slice (hs[i]).va (hs[i]).vn (hs[i]).vc) ∧ W.cell? ⟨g, i * 5 + 3, none⟩ = some (.slice (hs[i]).da (hs[i]).dn (hs[i]).dc) ∧ W.cell? ⟨g, i * 5 + 4, none⟩ = some (.slice (hs[i]).ta (hs[i]).tn (hs[i]).tc) := by
  obtain ⟨g', e, h⟩ := x.o.at hl i hi
  injection e with e
  injection e with e
  subst e
  exact h
/-- The row, and the parts of one of its trees. -/
structure LN (w W : World) (a : Option Addr) (n c : Nat) (hs : List TH) (ts : List Tr) (hh : TH) (x : AT) (H : Nat → TH) : Prop where
  s : LS w W a n c hs ts
  p : TreeAt W hh x.tr H
theorem LS.key {w W : World} {a : Option Addr} {n c : Nat} {hs : List TH} {ts : List Tr} (x : LS w W a n c hs ts) (i : Nat) (h1 : i < hs.length) (h2 : i < ts.length) {l : AT} {k v : List Int} {r : AT} (e : ts[i] = (AT.node l k v r).tr) : InBytes W (hs[i]).ka (hs[i]).kn (hs[i]).kc k ∧ InBytes W (hs[i]).va (hs[i]).vn (hs[i]).vc v := by
  have q := x.hh.2 i h1 h2
  rw [e] at q
  obtain ⟨H, hp⟩ := q.parts
  exact ⟨hp.key, hp.val⟩
end Go.Proofs.YtlbiefddcimdgaaDoor

/- The contract of the document's Same of lists of pairs. -/
namespace Go.Proofs.YtlbiefddcimdgaaDoor
open Go.RowKit
set_option linter.unusedVariables false

/-- Heads, by number, and pairs. -/
def PairsD (w : World) (D : Nat → PH) (kvs : List KV) : Prop := ∀ i (h : i < kvs.length), InBytes w (D i).ka (D i).kn (D i).kc (kvs[i]).1 ∧ InBytes w (D i).va (D i).vn (D i).vc (kvs[i]).2
theorem PairsD.below {w w' : World} {D : Nat → PH} {kvs : List KV} (h : PairsD w D kvs) (hb : Below w.heap.size w w') : PairsD w' D kvs := fun i hi => ⟨(h i hi).1.below hb, (h i hi).2.below hb⟩
def pZ : PH := ⟨none, 0, 0, none, 0, 0⟩
theorem PairsIn.byD {w : World} {ps : List PH} {kvs : List KV} (h : PairsIn w ps kvs) : PairsD w (fun i => ps.getD i pZ) kvs := fun i hi => by
  have h1 : i < ps.length := by rw [h.1]; exact hi
  have e : ps.getD i pZ = ps[i] := by simp [List.getD, h1]
  dsimp only
  rw [e]
  exact h.2 i h1 hi
/-- The two cells of the i-th pair that came in. -/
theorem InRec.pair {w : World} {a : Option Addr} {n cap : Nat} {D : Nat → PH} (h : InRec recP w a n cap D) {g off : Nat} (e : a = some ⟨g, off, none⟩) (i : Nat) (hi : i < n) : w.cell? ⟨g, off + i * 2, none⟩ = some (.slice (D i).ka (D i).kn (D i).kc) ∧ w.cell? ⟨g, off + i * 2 + 1, none⟩ = some (.slice (D i).va (D i).vn (D i).vc) := by
  obtain ⟨g', off', e', _, hc⟩ := h.at (by omega)
  rw [e] at e'
  injection e' with e'
  injection e' with e1 e2
  subst e1 e2
  exact ⟨hc i hi 0 _ rfl, hc i hi 1 _ rfl⟩

set_option maxRecDepth 100000 in
set_option maxHeartbeats 4000000 in
theorem refSameP_any (kvs : List KV) (D D' : Nat → PH) (a a' : Option Addr) (n c c' : Nat) (w : World) (hn : n = kvs.length) (h1 : InRec recP w a n c D) (h2 : InRec recP w a' n c' D') (p1 : PairsD w D kvs) (p2 : PairsD w D' kvs) :
    Calls Tryd.prog 15 #[.slice a n c, .slice a' n c'] w (Says w (.bool true)) := by
  have HA := Lib.hid (And.intro h1 (And.intro h2 (And.intro p1 p2)))
  have hn63 : n ≤ 9223372036854775807 := by have q1 := h1.le; have q2 := h1.max; simp only [maxLen] at q2; omega
  clear h1 h2 p1 p2
  have hnn : ((n : Int) != (n : Int)) = false := by simp
  go_enter Tryd.func15, Tryd.ntmps15
  go_wp2_with fail
  go_loopw [5] (fun s5 wx => ∃ i : Nat, i ≤ n ∧ s5 = .int .i64 i ∧ Below w.heap.size w wx) (fun s5 _ => n - (intOf s5).toNat)
  case atStart => exact ⟨0, by omega, rfl, Below.refl _ _⟩
  case round =>
    obtain ⟨i, hi, rfl, hb⟩ := hrel
    by_cases hlt : i < n
    · have q1 : (i : Int) < (n : Int) := by omega
      have hik : i < kvs.length := by omega
      obtain ⟨g, off, ea, -, -⟩ := HA.out.1.at (by omega)
      obtain ⟨g', off', ea', -, -⟩ := HA.out.2.1.at (by omega)
      have hbd : Below w.heap.size w wr.drew := hb.drew
      have HS6 : Hid ((fun W => W.cell? ⟨g, off + i * 2, none⟩ = some (.slice (D i).ka (D i).kn (D i).kc) ∧ W.cell? ⟨g, off + i * 2 + 1, none⟩ = some (.slice (D i).va (D i).vn (D i).vc) ∧ W.cell? ⟨g', off' + i * 2, none⟩ = some (.slice (D' i).ka (D' i).kn (D' i).kc) ∧ W.cell? ⟨g', off' + i * 2 + 1, none⟩ = some (.slice (D' i).va (D' i).vn (D' i).vc) ∧ (convert 22 9 (.slice (D i).ka (D i).kn (D i).kc)).run Tryd.prog W = .ok (.string (strOfNums (kvs[i]).1)) W ∧ (convert 22 9 (.slice (D' i).ka (D' i).kn (D' i).kc)).run Tryd.prog W = .ok (.string (strOfNums (kvs[i]).1)) W ∧ (convert 22 9 (.slice (D i).va (D i).vn (D i).vc)).run Tryd.prog W = .ok (.string (strOfNums (kvs[i]).2)) W ∧ (convert 22 9 (.slice (D' i).va (D' i).vn (D' i).vc)).run Tryd.prog W = .ok (.string (strOfNums (kvs[i]).2)) W) wr.drew) := Lib.hid ⟨((HA.out.1.below hbd).pair ea i hlt).1, ((HA.out.1.below hbd).pair ea i hlt).2, ((HA.out.2.1.below hbd).pair ea' i hlt).1, ((HA.out.2.1.below hbd).pair ea' i hlt).2, conv_key ((HA.out.2.2.1.below hbd) i hik).1, conv_key ((HA.out.2.2.2.below hbd) i hik).1, conv_key ((HA.out.2.2.1.below hbd) i hik).2, conv_key ((HA.out.2.2.2.below hbd) i hik).2⟩
      have HBD := Lib.hid hbd
      clear hb hbd
      subst ea ea'
      go_upto_region 6 with fail
      refine wp_region_held_drew (S := (fun W => W.cell? ⟨g, off + i * 2, none⟩ = some (.slice (D i).ka (D i).kn (D i).kc) ∧ W.cell? ⟨g, off + i * 2 + 1, none⟩ = some (.slice (D i).va (D i).vn (D i).vc) ∧ W.cell? ⟨g', off' + i * 2, none⟩ = some (.slice (D' i).ka (D' i).kn (D' i).kc) ∧ W.cell? ⟨g', off' + i * 2 + 1, none⟩ = some (.slice (D' i).va (D' i).vn (D' i).vc) ∧ (convert 22 9 (.slice (D i).ka (D i).kn (D i).kc)).run Tryd.prog W = .ok (.string (strOfNums (kvs[i]).1)) W ∧ (convert 22 9 (.slice (D' i).ka (D' i).kn (D' i).kc)).run Tryd.prog W = .ok (.string (strOfNums (kvs[i]).1)) W ∧ (convert 22 9 (.slice (D i).va (D i).vn (D i).vc)).run Tryd.prog W = .ok (.string (strOfNums (kvs[i]).2)) W ∧ (convert 22 9 (.slice (D' i).va (D' i).vn (D' i).vc)).run Tryd.prog W = .ok (.string (strOfNums (kvs[i]).2)) W)) (by kernel_rfl) HS6.out (fun hHeld => ?_)
      refine take_w (i := 0) (oi := ?oZ1) (v := ?vZ1) ?hiZ1 (by kernel_rfl) (by kernel_rfl) (by kernel_rfl) ?hQZ1 ?hwZ1 ?hyZ1 (by assumption) ?restZ1
      case hiZ1 => (simp only [List.getElem?_toArray, List.getElem?_cons_zero] <;> rfl)
      case hQZ1 => exact (fun _ _ _ h => h)
      case hwZ1 => rfl
      case hyZ1 => (intro w hSw; (try dsimp only at hSw); go_simp; try with_reducible rfl)
      (try simp only [Act.put, List.setIfInBounds_toArray, List.set_cons_zero, List.set_cons_succ])
      refine take_w (i := 1) (oi := ?oZ2) (v := ?vZ2) ?hiZ2 (by kernel_rfl) (by kernel_rfl) (by kernel_rfl) ?hQZ2 ?hwZ2 ?hyZ2 (by assumption) ?restZ2
      case hiZ2 => (simp only [List.getElem?_toArray, List.getElem?_cons_succ, List.getElem?_cons_zero] <;> rfl)
      case hQZ2 => exact (fun _ _ _ h => h)
      case hwZ2 => rfl
      case hyZ2 => (intro w hSw; (try dsimp only at hSw); go_simp; try with_reducible rfl)
      (try simp only [Act.put, List.setIfInBounds_toArray, List.set_cons_zero, List.set_cons_succ])
      refine take_w (i := 2) (oi := ?oZ3) (v := ?vZ3) ?hiZ3 (by kernel_rfl) (by kernel_rfl) (by kernel_rfl) ?hQZ3 ?hwZ3 ?hyZ3 (by assumption) ?restZ3
      case hiZ3 => (simp only [List.getElem?_toArray, List.getElem?_cons_succ, List.getElem?_cons_zero] <;> rfl)
      case hQZ3 => exact (fun _ _ _ h => h)
      case hwZ3 => rfl
      case hyZ3 => (intro w hSw; (try dsimp only at hSw); go_simp; try with_reducible rfl)
      (try simp only [Act.put, List.setIfInBounds_toArray, List.set_cons_zero, List.set_cons_succ])
      refine take_w (i := 3) (oi := ?oZ4) (v := ?vZ4) ?hiZ4 (by kernel_rfl) (by kernel_rfl) (by kernel_rfl) ?hQZ4 ?hwZ4 ?hyZ4 (by assumption) ?restZ4
      case hiZ4 => (simp only [List.getElem?_toArray, List.getElem?_cons_succ, List.getElem?_cons_zero] <;> rfl)
      case hQZ4 => exact (fun _ _ _ h => h)
      case hwZ4 => rfl
      case hyZ4 => (intro w hSw; (try dsimp only at hSw); go_simp; try with_reducible rfl)
      (try simp only [Act.put, List.setIfInBounds_toArray, List.set_cons_zero, List.set_cons_succ])
      refine take_w (i := 4) (oi := ?oZ5) (v := ?vZ5) ?hiZ5 (by kernel_rfl) (by kernel_rfl) (by kernel_rfl) ?hQZ5 ?hwZ5 ?hyZ5 (by assumption) ?restZ5
      case hiZ5 => (simp only [List.getElem?_toArray, List.getElem?_cons_succ, List.getElem?_cons_zero] <;> rfl)
      case hQZ5 => exact (fun _ _ _ h => h)
      case hwZ5 => rfl
      case hyZ5 => (intro w hSw; (try dsimp only at hSw); go_simp; try with_reducible rfl)
      (try simp only [Act.put, List.setIfInBounds_toArray, List.set_cons_zero, List.set_cons_succ])
      refine take_w (i := 5) (oi := ?oZ6) (v := ?vZ6) ?hiZ6 (by kernel_rfl) (by kernel_rfl) (by kernel_rfl) ?hQZ6 ?hwZ6 ?hyZ6 (by assumption) ?restZ6
      case hiZ6 => (simp only [List.getElem?_toArray, List.getElem?_cons_succ, List.getElem?_cons_zero] <;> rfl)
      case hQZ6 => exact (fun _ _ _ h => h)
      case hwZ6 => rfl
      case hyZ6 => (intro w hSw; (try dsimp only at hSw); go_simp; try with_reducible rfl)
      (try simp only [Act.put, List.setIfInBounds_toArray, List.set_cons_zero, List.set_cons_succ])
      refine take_w (i := 6) (oi := ?oZ7) (v := ?vZ7) ?hiZ7 (by kernel_rfl) (by kernel_rfl) (by kernel_rfl) ?hQZ7 ?hwZ7 ?hyZ7 (by assumption) ?restZ7
      case hiZ7 => (simp only [List.getElem?_toArray, List.getElem?_cons_succ, List.getElem?_cons_zero] <;> rfl)
      case hQZ7 => exact (fun _ _ _ h => h)
      case hwZ7 => rfl
      case hyZ7 => (intro w hSw; (try dsimp only at hSw); go_simp; try with_reducible rfl)
      (try simp only [Act.put, List.setIfInBounds_toArray, List.set_cons_zero, List.set_cons_succ])
      refine take_w (i := 7) (oi := ?oZ8) (v := ?vZ8) ?hiZ8 (by kernel_rfl) (by kernel_rfl) (by kernel_rfl) ?hQZ8 ?hwZ8 ?hyZ8 (by assumption) ?restZ8
      case hiZ8 => (simp only [List.getElem?_toArray, List.getElem?_cons_succ, List.getElem?_cons_zero] <;> rfl)
      case hQZ8 => exact (fun _ _ _ h => h)
      case hwZ8 => rfl
      case hyZ8 => (intro w hSw; (try dsimp only at hSw); go_simp; try with_reducible rfl)
      (try simp only [Act.put, List.setIfInBounds_toArray, List.set_cons_zero, List.set_cons_succ])
      refine take_w (i := 8) (oi := ?oZ9) (v := ?vZ9) ?hiZ9 (by kernel_rfl) (by kernel_rfl) (by kernel_rfl) ?hQZ9 ?hwZ9 ?hyZ9 (by assumption) ?restZ9
      case hiZ9 => (simp only [List.getElem?_toArray, List.getElem?_cons_succ, List.getElem?_cons_zero] <;> rfl)
      case hQZ9 => exact (fun _ _ _ h => h)
      case hwZ9 => rfl
      case hyZ9 => (intro w hSw; (try dsimp only at hSw); go_simp; try with_reducible rfl)
      (try simp only [Act.put, List.setIfInBounds_toArray, List.set_cons_zero, List.set_cons_succ])
      refine take_w (i := 9) (oi := ?oZ10) (v := ?vZ10) ?hiZ10 (by kernel_rfl) (by kernel_rfl) (by kernel_rfl) ?hQZ10 ?hwZ10 ?hyZ10 (by assumption) ?restZ10
      case hiZ10 => (simp only [List.getElem?_toArray, List.getElem?_cons_succ, List.getElem?_cons_zero] <;> rfl)
      case hQZ10 => exact (fun _ _ _ h => h)
      case hwZ10 => rfl
      case hyZ10 => (intro w hSw; (try dsimp only at hSw); go_simp; try with_reducible rfl)
      (try simp only [Act.put, List.setIfInBounds_toArray, List.set_cons_zero, List.set_cons_succ])
      refine take_w (i := 10) (oi := ?oZ11) (v := ?vZ11) ?hiZ11 (by kernel_rfl) (by kernel_rfl) (by kernel_rfl) ?hQZ11 ?hwZ11 ?hyZ11 (by assumption) ?restZ11
      case hiZ11 => (simp only [List.getElem?_toArray, List.getElem?_cons_succ, List.getElem?_cons_zero] <;> rfl)
      case hQZ11 => exact (fun _ _ _ h => h)
      case hwZ11 => rfl
      case hyZ11 => (intro w hSw; (try dsimp only at hSw); go_simp; try with_reducible rfl)
      (try simp only [Act.put, List.setIfInBounds_toArray, List.set_cons_zero, List.set_cons_succ])
      refine take_w (i := 11) (oi := ?oZ12) (v := ?vZ12) ?hiZ12 (by kernel_rfl) (by kernel_rfl) (by kernel_rfl) ?hQZ12 ?hwZ12 ?hyZ12 (by assumption) ?restZ12
      case hiZ12 => (simp only [List.getElem?_toArray, List.getElem?_cons_succ, List.getElem?_cons_zero] <;> rfl)
      case hQZ12 => exact (fun _ _ _ h => h)
      case hwZ12 => rfl
      case hyZ12 => (intro w hSw; (try dsimp only at hSw); go_simp; try with_reducible rfl)
      (try simp only [Act.put, List.setIfInBounds_toArray, List.set_cons_zero, List.set_cons_succ])
      refine take_w (i := 12) (oi := ?oZ13) (v := ?vZ13) ?hiZ13 (by kernel_rfl) (by kernel_rfl) (by kernel_rfl) ?hQZ13 ?hwZ13 ?hyZ13 (by assumption) ?restZ13
      case hiZ13 => (simp only [List.getElem?_toArray, List.getElem?_cons_succ, List.getElem?_cons_zero] <;> rfl)
      case hQZ13 => exact (fun _ _ _ h => h)
      case hwZ13 => rfl
      case hyZ13 => (intro w hSw; (try dsimp only at hSw); go_simp; try with_reducible rfl)
      (try simp only [Act.put, List.setIfInBounds_toArray, List.set_cons_zero, List.set_cons_succ])
      refine take_w (i := 13) (oi := ?oZ14) (v := ?vZ14) ?hiZ14 (by kernel_rfl) (by kernel_rfl) (by kernel_rfl) ?hQZ14 ?hwZ14 ?hyZ14 (by assumption) ?restZ14
      case hiZ14 => (simp only [List.getElem?_toArray, List.getElem?_cons_succ, List.getElem?_cons_zero] <;> rfl)
      case hQZ14 => exact (fun _ _ _ h => h)
      case hwZ14 => rfl
      case hyZ14 => (intro w hSw; (try dsimp only at hSw); go_simp; try with_reducible rfl)
      (try simp only [Act.put, List.setIfInBounds_toArray, List.set_cons_zero, List.set_cons_succ])
      refine take_w (i := 14) (oi := ?oZ15) (v := ?vZ15) ?hiZ15 (by kernel_rfl) (by kernel_rfl) (by kernel_rfl) ?hQZ15 ?hwZ15 ?hyZ15 (by assumption) ?restZ15
      case hiZ15 => (simp only [List.getElem?_toArray, List.getElem?_cons_succ, List.getElem?_cons_zero] <;> rfl)
      case hQZ15 => exact (fun _ _ _ h => h)
      case hwZ15 => rfl
      case hyZ15 => (intro w hSw; (try dsimp only at hSw); go_simp; try with_reducible rfl)
      (try simp only [Act.put, List.setIfInBounds_toArray, List.set_cons_zero, List.set_cons_succ])
      refine take_w (i := 15) (oi := ?oZ16) (v := ?vZ16) ?hiZ16 (by kernel_rfl) (by kernel_rfl) (by kernel_rfl) ?hQZ16 ?hwZ16 ?hyZ16 (by assumption) ?restZ16
      case hiZ16 => (simp only [List.getElem?_toArray, List.getElem?_cons_succ, List.getElem?_cons_zero] <;> rfl)
      case hQZ16 => exact (fun _ _ _ h => h)
      case hwZ16 => rfl
      case hyZ16 => (intro w hSw; (try dsimp only at hSw); go_simp; try with_reducible rfl)
      (try simp only [Act.put, List.setIfInBounds_toArray, List.set_cons_zero, List.set_cons_succ])
      refine take_w (i := 16) (oi := ?oZ17) (v := ?vZ17) ?hiZ17 (by kernel_rfl) (by kernel_rfl) (by kernel_rfl) ?hQZ17 ?hwZ17 ?hyZ17 (by assumption) ?restZ17
      case hiZ17 => (simp only [List.getElem?_toArray, List.getElem?_cons_succ, List.getElem?_cons_zero] <;> rfl)
      case hQZ17 => exact (fun _ _ _ h => h)
      case hwZ17 => rfl
      case hyZ17 => (intro w hSw; (try dsimp only at hSw); go_simp; try with_reducible rfl)
      (try simp only [Act.put, List.setIfInBounds_toArray, List.set_cons_zero, List.set_cons_succ])
      refine take_w (i := 17) (oi := ?oZ18) (v := ?vZ18) ?hiZ18 (by kernel_rfl) (by kernel_rfl) (by kernel_rfl) ?hQZ18 ?hwZ18 ?hyZ18 (by assumption) ?restZ18
      case hiZ18 => (simp only [List.getElem?_toArray, List.getElem?_cons_succ, List.getElem?_cons_zero] <;> rfl)
      case hQZ18 => exact (fun _ _ _ h => h)
      case hwZ18 => rfl
      case hyZ18 => (intro w hSw; (try dsimp only at hSw); go_simp; try with_reducible rfl)
      (try simp only [Act.put, List.setIfInBounds_toArray, List.set_cons_zero, List.set_cons_succ])
      refine take_w (i := 18) (oi := ?oZ19) (v := ?vZ19) ?hiZ19 (by kernel_rfl) (by kernel_rfl) (by kernel_rfl) ?hQZ19 ?hwZ19 ?hyZ19 (by assumption) ?restZ19
      case hiZ19 => (simp only [List.getElem?_toArray, List.getElem?_cons_succ, List.getElem?_cons_zero] <;> rfl)
      case hQZ19 => exact (fun _ _ _ h => h)
      case hwZ19 => rfl
      case hyZ19 => (intro w hSw; (try dsimp only at hSw); go_simp; try with_reducible rfl)
      (try simp only [Act.put, List.setIfInBounds_toArray, List.set_cons_zero, List.set_cons_succ])
      refine take_w (i := 19) (oi := ?oZ20) (v := ?vZ20) ?hiZ20 (by kernel_rfl) (by kernel_rfl) (by kernel_rfl) ?hQZ20 ?hwZ20 ?hyZ20 (by assumption) ?restZ20
      case hiZ20 => (simp only [List.getElem?_toArray, List.getElem?_cons_succ, List.getElem?_cons_zero] <;> rfl)
      case hQZ20 => exact (fun _ _ _ h => h)
      case hwZ20 => rfl
      case hyZ20 => (intro w hSw; (try dsimp only at hSw); go_simp; try with_reducible rfl)
      (try simp only [Act.put, List.setIfInBounds_toArray, List.set_cons_zero, List.set_cons_succ])
      refine take_w (i := 20) (oi := ?oZ21) (v := ?vZ21) ?hiZ21 (by kernel_rfl) (by kernel_rfl) (by kernel_rfl) ?hQZ21 ?hwZ21 ?hyZ21 (by assumption) ?restZ21
      case hiZ21 => (simp only [List.getElem?_toArray, List.getElem?_cons_succ, List.getElem?_cons_zero] <;> rfl)
      case hQZ21 => exact (fun _ _ _ h => h)
      case hwZ21 => rfl
      case hyZ21 => (intro w hSw; (try dsimp only at hSw); go_simp; try with_reducible rfl)
      (try simp only [Act.put, List.setIfInBounds_toArray, List.set_cons_zero, List.set_cons_succ])
      refine take_w (i := 21) (oi := ?oZ22) (v := ?vZ22) ?hiZ22 (by kernel_rfl) (by kernel_rfl) (by kernel_rfl) ?hQZ22 ?hwZ22 ?hyZ22 (by assumption) ?restZ22
      case hiZ22 => (simp only [List.getElem?_toArray, List.getElem?_cons_succ, List.getElem?_cons_zero] <;> rfl)
      case hQZ22 => exact (fun _ _ _ h => h)
      case hwZ22 => rfl
      case hyZ22 => (intro w hSw; (try dsimp only at hSw); go_simp; try with_reducible rfl)
      (try simp only [Act.put, List.setIfInBounds_toArray, List.set_cons_zero, List.set_cons_succ])
      refine take_w (i := 22) (oi := ?oZ23) (v := ?vZ23) ?hiZ23 (by kernel_rfl) (by kernel_rfl) (by kernel_rfl) ?hQZ23 ?hwZ23 ?hyZ23 (by assumption) ?restZ23
      case hiZ23 => (simp only [List.getElem?_toArray, List.getElem?_cons_succ, List.getElem?_cons_zero] <;> rfl)
      case hQZ23 => exact (fun _ _ _ h => h)
      case hwZ23 => rfl
      case hyZ23 => (intro w hSw; (try dsimp only at hSw); go_simp; try with_reducible rfl)
      (try simp only [Act.put, List.setIfInBounds_toArray, List.set_cons_zero, List.set_cons_succ])
      refine take_w (i := 23) (oi := ?oZ24) (v := ?vZ24) ?hiZ24 (by kernel_rfl) (by kernel_rfl) (by kernel_rfl) ?hQZ24 ?hwZ24 ?hyZ24 (by assumption) ?restZ24
      case hiZ24 => (simp only [List.getElem?_toArray, List.getElem?_cons_succ, List.getElem?_cons_zero] <;> rfl)
      case hQZ24 => exact (fun _ _ _ h => h)
      case hwZ24 => rfl
      case hyZ24 => (intro w hSw; (try dsimp only at hSw); go_simp; try with_reducible rfl)
      (try simp only [Act.put, List.setIfInBounds_toArray, List.set_cons_zero, List.set_cons_succ])
      refine take_w (i := 24) (oi := ?oZ25) (v := ?vZ25) ?hiZ25 (by kernel_rfl) (by kernel_rfl) (by kernel_rfl) ?hQZ25 ?hwZ25 ?hyZ25 (by assumption) ?restZ25
      case hiZ25 => (simp only [List.getElem?_toArray, List.getElem?_cons_succ, List.getElem?_cons_zero] <;> rfl)
      case hQZ25 => exact (fun _ _ _ h => h)
      case hwZ25 => rfl
      case hyZ25 => (intro w hSw; (try dsimp only at hSw); go_simp; try with_reducible rfl)
      (try simp only [Act.put, List.setIfInBounds_toArray, List.set_cons_zero, List.set_cons_succ])
      refine take_w (i := 25) (oi := ?oZ26) (v := ?vZ26) ?hiZ26 (by kernel_rfl) (by kernel_rfl) (by kernel_rfl) ?hQZ26 ?hwZ26 ?hyZ26 (by assumption) ?restZ26
      case hiZ26 => (simp only [List.getElem?_toArray, List.getElem?_cons_succ, List.getElem?_cons_zero] <;> rfl)
      case hQZ26 => exact (fun _ _ _ h => h)
      case hwZ26 => rfl
      case hyZ26 => (intro w hSw; (try dsimp only at hSw); go_simp; try with_reducible rfl)
      (try simp only [Act.put, List.setIfInBounds_toArray, List.set_cons_zero, List.set_cons_succ])
      refine take_w (i := 26) (oi := ?oZ27) (v := ?vZ27) ?hiZ27 (by kernel_rfl) (by kernel_rfl) (by kernel_rfl) ?hQZ27 ?hwZ27 ?hyZ27 (by assumption) ?restZ27
      case hiZ27 => (simp only [List.getElem?_toArray, List.getElem?_cons_succ, List.getElem?_cons_zero] <;> rfl)
      case hQZ27 => exact (fun _ _ _ h => h)
      case hwZ27 => rfl
      case hyZ27 => (intro w hSw; (try dsimp only at hSw); go_simp; try with_reducible rfl)
      (try simp only [Act.put, List.setIfInBounds_toArray, List.set_cons_zero, List.set_cons_succ])
      refine take_w (i := 27) (oi := ?oZ28) (v := ?vZ28) ?hiZ28 (by kernel_rfl) (by kernel_rfl) (by kernel_rfl) ?hQZ28 ?hwZ28 ?hyZ28 (by assumption) ?restZ28
      case hiZ28 => (simp only [List.getElem?_toArray, List.getElem?_cons_succ, List.getElem?_cons_zero] <;> rfl)
      case hQZ28 => exact (fun _ _ _ h => h)
      case hwZ28 => rfl
      case hyZ28 => (intro w hSw; (try dsimp only at hSw); go_simp; try with_reducible rfl)
      (try simp only [Act.put, List.setIfInBounds_toArray, List.set_cons_zero, List.set_cons_succ])
      refine wpAnyH_done (by kernel_rfl) ?_ _
      clear hHeld
      clear HS6
      go_wp2_with fail
      exact ⟨⟨i + 1, by omega, by go_num, HBD.out⟩, by simp [intOf]; omega⟩
    · obtain rfl : i = n := by omega
      have q1 : ¬ (i : Int) < (i : Int) := by omega
      go_wp2_with fail
      go_ret
      exact ⟨rfl, hb⟩
end Go.Proofs.YtlbiefddcimdgaaDoor
