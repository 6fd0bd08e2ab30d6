/- Rows of trees in one's own memory. No program is named here. Rows of records in one's own memory, and as arguments. No program is named here. A tree that is an argument is one that lies in memory. No program is named here. Records of two byte strings and a bit. No program is named here. Spans of keys: what the document says of them, as functions. No program is named here. AVL trees: what pairs they have behind an insertion, and behind a deletion. No program is named here. AVL trees as trees of layer 4; which trees are balanced. No program is named here. The proof of a balanced tree for a span, as a function: its digest, its form, its nodes. No program is named here. What a proof shows of a span, as a function: its items, their order, what is covered. No program is named here. Boxes of trees that are written; a tree of two that were made; appends of bytes at a step. No program is named here. A full tree does not lie in a box: what is written there leaves it as it is. No program is named here. Rows of pairs of a key and a value. No program is named here. Boxes of trees, results that are trees, strings of bytes: the types alone are named. Errors that are Codes. What the program's scan tells, as its contracts say it: the types alone are named. What is told of a span: keys of the proof, in the span; of a point's span one at most. No program is named here. Partial trees by their kinds; the search for two unlike texts of one digest, as a function: what it finds is right; where it finds nothing, what covers a span tells the same. No program is named here. What the search finds are two unlike texts of one digest; in a tree and what hides parts of it nothing is found. No program is named here. A node of a partial tree: its kids, its preimages. No program is named here. The search by what the places of two trees tell: first their preimages, one by one, then what lies below. No program is named here. The empty tree. No program is named here. Rows of one's own, of unlike types. Trees that lie in new blocks alone; what the program's proofs tell, as their contracts say it. A partial tree does not lie in a box; leaves. No program is named here. Bytes, leaves and nodes that lie in new blocks alone. No program is named here. Images of trees as they lie in memory: what the program's search sees. No program is named here. The contracts of the program's Number and Bytes. The contracts of the program's preimages. The contract of the program's digest. What the rows' condition on the two listed tables gives the walks; a start that meets it. The contract of the program's image of what has a preimage. The contracts of the program's images of a node's value and of its pair. What the program's Find tells, as its contract says it. The parts of what is formed are short. No program is named here. What a check tells, of what is shown; keys are short. No program is named here. The contract of the document's list of nodes. Rows of trees: the cells of the i-th; their heads. No program is named here. The row of a tree's nodes, and the i-th of them. No program is named here. What is found is short, and right. No program is named here. Two proofs of one digest that are taken for one span, and in which nothing is found, tell the same pairs. No program is named here. -/
import Derived.Test.YtioifkbkllnkgaaDoorMAA
import Derived.Test.YtioifkbkllnkgaaDoorProg
import Derived.Lib.IfaceNeq
import Derived.Test.YtioifkbkllnkgaaDoorPrLen
import Derived.Test.YtioifkbkllnkgaaDoorRows
import Derived.ProofKit
import Derived.LaidMore
import Derived.OpenShut
import Derived.Stop.Joined
/- Rows of trees in one's own memory. No program is named here. -/
namespace Go.Proofs.YtioifkbkllnkgaaDoor
open Go.RowKit
set_option linter.unusedVariables false

/-- The cells of trees, one behind the other. -/
def cellsT (hs : List TH) : List Value := hs.flatMap TH.cells
theorem cellsT_len (hs : List TH) : (cellsT hs).length = hs.length * 5 := by
  unfold cellsT
  induction hs with
  | nil => rfl
  | cons h r ih =>
    rw [List.flatMap_cons, List.length_append, ih]
    simp [TH.cells]
    omega
theorem cellsT_app (a b : List TH) : cellsT (a ++ b) = cellsT a ++ cellsT b := by simp [cellsT]
theorem cellsT_one {hs : List TH} {u : Value} (h : u ∈ cellsT hs) : u.oneCell' = true := by
  unfold cellsT at h
  rw [List.mem_flatMap] at h
  obtain ⟨x, _, hx⟩ := h
  simp [TH.cells] at hx
  rcases hx with rfl | rfl | rfl | rfl | rfl <;> rfl
theorem cellsT_get (hs : List TH) (i j : Nat) (hi : i < hs.length) (hj : j < 5) : (cellsT hs)[i * 5 + j]? = some (hs[i].cell j) := by
  induction hs generalizing i with
  | nil => simp at hi
  | cons h r ih =>
    have e : cellsT (h :: r) = h.cells ++ cellsT r := by simp [cellsT]
    rw [e]
    rcases i with _ | i
    · rw [List.getElem?_append_left (by simp [TH.cells]; omega)]
      rcases (by omega : j = 0 ∨ j = 1 ∨ j = 2 ∨ j = 3 ∨ j = 4) with rfl | rfl | rfl | rfl | rfl <;> rfl
    · rw [List.getElem?_append_right (by simp [TH.cells]; omega)]
      have e2 : (i + 1) * 5 + j - h.cells.length = i * 5 + j := by simp [TH.cells]; omega
      rw [e2, ih i (by simpa using hi)]
      simp

/-- A row of trees in new memory, from the block base on. -/
def OwnT (W : World) (base : Nat) (ty : TypeId) (v : Value) (hs : List TH) : Prop := W.ownsRow base ty 5 v hs.length (cellsT hs)
theorem OwnT.keep {W W' : World} {base : Nat} {ty : TypeId} {v : Value} {hs : List TH} (h : OwnT W base ty v hs) (hb : Below W.heap.size W W') : OwnT W' base ty v hs := by
  refine ⟨h.1, ?_⟩
  rcases h.2 with h1 | ⟨g, cap, cur, h1, h2, h3, h4⟩
  · exact .inl h1
  · have hlt : g < W.heap.size := by
      rcases Nat.lt_or_ge g W.heap.size with hlt | hge
      · exact hlt
      · rw [Array.getElem?_eq_none hge] at h3; cases h3
    exact .inr ⟨g, cap, cur, h1, h2, (hb.block g hlt).trans h3, h4⟩
theorem OwnT.weak {W : World} {base base' : Nat} {ty : TypeId} {v : Value} {hs : List TH} (h : OwnT W base ty v hs) (hb : base' ≤ base) : OwnT W base' ty v hs := by
  refine ⟨h.1, ?_⟩
  rcases h.2 with h1 | ⟨g, cap, cur, h1, h2, h3⟩
  · exact .inl h1
  · exact .inr ⟨g, cap, cur, h1, Nat.le_trans hb h2, h3⟩
theorem OwnT.nil (W : World) (base : Nat) (ty : TypeId) : OwnT W base ty (.slice none 0 0) [] := ⟨rfl, .inl ⟨rfl, rfl⟩⟩
/-- Its block, and its cells. -/
theorem OwnT.form {W : World} {base : Nat} {ty : TypeId} {v : Value} {hs : List TH} (h : OwnT W base ty v hs) : (v = .slice none 0 0 ∧ hs = []) ∨ ∃ g c, v = .slice (some ⟨g, 0, none⟩) hs.length c ∧ base ≤ g ∧ g < W.heap.size ∧ hs.length ≤ c ∧ c ≤ maxLen ∧ ∀ j u, (cellsT hs)[j]? = some u → W.cell? ⟨g, j, none⟩ = some u := by
  rcases h.2 with ⟨h1, h2⟩ | ⟨g, cap, cur, h1, h2, h3, h4, h5, h6, h7⟩
  · exact .inl ⟨h1, List.eq_nil_of_length_eq_zero h2⟩
  · right
    have hlt : g < W.heap.size := by
      rcases Nat.lt_or_ge g W.heap.size with hlt | hge
      · exact hlt
      · rw [Array.getElem?_eq_none hge] at h3; cases h3
    refine ⟨g, cap, h1, h2, hlt, h4, h5, fun j u hu => ?_⟩
    rw [cell_of_row W g j _ _ (0, 0) h3]
    rw [← h7, List.getElem?_take] at hu
    split at hu
    · simpa using hu
    · cases hu
/-- Where an append to a row of one's own puts it: where it was, or in the next new block. -/
theorem run_append_where {P : Program} (w : World) (base : Nat) (t ty e : TypeId) (i : TypeInfo) (z : Value) (size bytes : Nat) (ht : P.underlying t = some (.slice e)) (hi : P.info? e = some i) (hz : i.zero = some z)
    (hsize : i.size = size) (hby : i.bytes = bytes) (v : Value) (n : Nat) (xs : List Value) (hown : w.ownsRow base e size v n xs)
    (a : Addr) (m c : Nat) (news : List Value) (hl : news.length = m * size) (hnews : ∀ j u, news[j]? = some u → w.cell? (a.add j) = some u) (h1 : ∀ u ∈ news, u.oneCell' = true)
    (hzs : z.cells.size = size) (hsz : 0 < size) (hbase : base ≤ w.heap.size) (h63 : n + m ≤ maxLen) (hbytes : (n + m) * bytes ≤ 140737488355328) :
    ∃ v' w', (Builtin.append_ #[t, t] ty #[v, .slice (some a) m c]).run P w = .ok v' w' ∧ (v'.ownBlock = v.ownBlock ∨ v'.ownBlock = some w.heap.size) := by
  subst hsize
  subst hby
  simp only [maxLen] at h63
  rcases hown.2 with ⟨rfl, rfl⟩ | ⟨g, cap, cur, rfl, _, hg, _, _, hcs, _⟩
  · by_cases hm0 : 0 < m
    · exact ⟨_, _, run_append_nil (P := P) w t ty e i z ht hi hz a m c news hl hnews (by omega) (by omega) (by simp only [Nat.zero_add] at hbytes; omega), .inr rfl⟩
    · obtain ⟨v', w', hr, _, _, h4⟩ := run_append_own (P := P) w base t ty e i z i.size i.bytes ht hi hz rfl rfl hzs hsz (.slice none 0 0) 0 xs hown a m c news hl hnews h1 (by simp only [maxLen]; omega) hbytes hbase
      exact ⟨v', w', hr, .inl (by rw [h4.2 ⟨rfl, by omega⟩])⟩
  · by_cases hroom : n + m ≤ cap
    · exact ⟨_, _, run_append_room (P := P) w t ty e i ht hi g n cap cur hg a m c news hl hnews h1 hroom (by rw [hl, hcs, ← Nat.add_mul]; exact Nat.mul_le_mul_right _ hroom), .inl rfl⟩
    · exact ⟨_, _, run_append_grow (P := P) w t ty e i z ht hi hz ⟨g, 0, none⟩ n cap xs hown.1 (hown.cells (g := g) rfl) a m c news hl hnews (by omega) (by omega) (growslice_fits (by omega) hbytes), .inr rfl⟩
/-- append(a, b...), both rows of trees of one's own, at a step. -/
theorem wp_append_trees {P : Program} (w : World) {o : Oper} {a : Act} {K : Act → World → Prop} {Q : Exit → Act → World → Prop} (s x : Operand) (t : TypeId)
    (ho : o.op = .call { callee := .builtin .append, args := #[s, x], argTypes := #[t, t] })
    (base : Nat) (e : TypeId) (i : TypeInfo) (z : Value) (bytes : Nat) (ht : P.underlying t = some (.slice e)) (hi : P.info? e = some i) (hz : i.zero = some z)
    (hsize : i.size = 5) (hby : i.bytes = bytes) (hzs : z.cells.size = 5)
    (v : Value) (hs1 : List TH) (hs : a.eval s = v) (hown : OwnT w base e v hs1) (g c : Nat) (hs2 : List TH) (hx : a.eval x = .slice (some ⟨g, 0, none⟩) hs2.length c) (hcells : ∀ j u, (cellsT hs2)[j]? = some u → w.cell? ⟨g, j, none⟩ = some u)
    (hbytes : (hs1.length + hs2.length) * bytes ≤ 140737488355328) (hb0 : 0 < bytes) (hbase : base ≤ w.heap.size)
    (h : ∀ v' w', OwnT w' base e v' (hs1 ++ hs2) → w.grownBy w' v.ownBlock → (v'.ownBlock = v.ownBlock ∨ v'.ownBlock = some w.heap.size) → K (a.put o.dst v') w') : o.wp P a w K Q := by
  have hmax : hs1.length + hs2.length ≤ maxLen := by
    have : hs1.length + hs2.length ≤ (hs1.length + hs2.length) * bytes := Nat.le_mul_of_pos_right _ hb0
    simp only [maxLen]
    omega
  have hnews : ∀ j u, (cellsT hs2)[j]? = some u → w.cell? ((⟨g, 0, none⟩ : Addr).add j) = some u := fun j u hu => by
    have hp : (⟨g, 0, none⟩ : Addr).add j = ⟨g, j, none⟩ := by unfold Addr.add; split <;> simp_all
    rw [hp]
    exact hcells j u hu
  obtain ⟨v', w', hr, h2, h3, h4⟩ := run_append_own (P := P) w base t o.type e i z 5 bytes ht hi hz hsize hby hzs (by omega) v hs1.length (cellsT hs1) hown ⟨g, 0, none⟩ hs2.length c (cellsT hs2) (cellsT_len hs2) hnews (fun u hu => cellsT_one hu) hmax hbytes hbase
  obtain ⟨v2, w2, hr2, h5⟩ := run_append_where (P := P) w base t o.type e i z 5 bytes ht hi hz hsize hby v hs1.length (cellsT hs1) hown ⟨g, 0, none⟩ hs2.length c (cellsT hs2) (cellsT_len hs2) hnews (fun u hu => cellsT_one hu) hzs (by omega) hbase hmax hbytes
  rw [hr] at hr2
  injection hr2 with e1 e2
  subst e1 e2
  unfold Oper.wp execOp
  simp only [ho, resolve, invoke, builtin, Sem.run_bind, Sem.run_pure, Result.andThen_ok, List.map_toArray, List.map_cons, List.map_nil, hs, hx, hr]
  refine h v' w' ?_ h3 h5
  unfold OwnT
  rw [cellsT_app, List.length_append]
  exact h2
/-- append(a, b...), both rows of trees of one's own. -/
theorem wpList_append_trees {P : Program} (w : World) {ops : Array Oper} {rest : List Oper} {o : Oper} {a : Act} {Q : Exit → Act → World → Prop} (hgd : o.guard = none) (s x : Operand) (t : TypeId)
    (ho : o.op = .call { callee := .builtin .append, args := #[s, x], argTypes := #[t, t] })
    (base : Nat) (e : TypeId) (i : TypeInfo) (z : Value) (bytes : Nat) (ht : P.underlying t = some (.slice e)) (hi : P.info? e = some i) (hz : i.zero = some z)
    (hsize : i.size = 5) (hby : i.bytes = bytes) (hzs : z.cells.size = 5)
    (v : Value) (hs1 : List TH) (hs : a.eval s = v) (hown : OwnT w base e v hs1) (base2 : Nat) (v2 : Value) (hs2 : List TH) (hx : a.eval x = v2) (hown2 : OwnT w base2 e v2 hs2)
    (hbytes : (hs1.length + hs2.length) * bytes ≤ 140737488355328) (hb0 : 0 < bytes) (hbase : base ≤ w.heap.size)
    (h : ∀ v' w', OwnT w' base e v' (hs1 ++ hs2) → w.grownBy w' v.ownBlock → (v'.ownBlock = v.ownBlock ∨ v'.ownBlock = some w.heap.size) → wpList P ops Q rest (a.put o.dst v') w') : wpList P ops Q (o :: rest) a w := by
  rcases hown2.form with ⟨rfl, rfl⟩ | ⟨g, c, rfl, _, _, _, _, hcells⟩
  · refine wpList_append_own_none hgd s x t ho base e i 5 ht hi v hs1.length (cellsT hs1) hs hown hx ?_
    exact h v w (by simpa using hown) (only_refl w _) (.inl rfl)
  · refine wpList_plain hgd fun K hK => ?_
    exact wp_append_trees w s x t ho base e i z bytes ht hi hz hsize hby hzs v hs1 hs hown g c hs2 hx hcells hbytes hb0 hbase fun v' w' h1 h2 h3 => hK _ _ (h v' w' h1 h2 h3)
/-- A row of one tree, in a block of its own. -/
theorem OwnT.one {W : World} {ty : TypeId} {g base : Nat} {h : TH} (hb : Box W ty g h) (hg : base ≤ g) : OwnT W base ty (.slice (some ⟨g, 0, none⟩) 1 1) [h] :=
  ⟨by simp [cellsT, TH.cells], .inr ⟨g, 1, _, rfl, hg, hb, Nat.le_refl _, by simp [maxLen], rfl, rfl⟩⟩
/-- An empty row, in a block of its own. -/
theorem OwnT.empty (W : World) (ty : TypeId) (base : Nat) (hb : base ≤ W.heap.size) : OwnT (W.alloc (.cells #[] ty)) base ty (.slice (some ⟨W.heap.size, 0, none⟩) 0 0) [] :=
  ⟨rfl, .inr ⟨W.heap.size, 0, _, rfl, hb, heap_alloc_new W _, Nat.le_refl _, Nat.zero_le _, rfl, rfl⟩⟩
/-- A tree is stored at the end of a row of one's own, at a step. -/
theorem wp_store_last {P : Program} (w : World) {o : Oper} {a : Act} {K : Act → World → Prop} {Q : Exit → Act → World → Prop} (ty : TypeId) (x y : Operand) (ho : o.op = .store ty x y)
    (base : Nat) (e : TypeId) (g n c : Nat) (hs : List TH) (z h : TH) (hn : hs.length = n) (hown : OwnT w base e (.slice (some ⟨g, 0, none⟩) (n + 1) c) (hs ++ [z]))
    (hx : a.eval x = .pointer (some ⟨g, n * 5, none⟩)) (hy : a.eval y = h.v) (hi : (P.info? ty).map (·.size) = some 5)
    (hK : ∀ w', OwnT w' base e (.slice (some ⟨g, 0, none⟩) (n + 1) c) (hs ++ [h]) → w.grownBy w' (some g) → K (a.put o.dst undef) w') : o.wp P a w K Q := by
  have hlen : (hs ++ [z]).length = n + 1 := by simp [hn]
  have hlen2 : (hs ++ [h]).length = n + 1 := by simp [hn]
  unfold OwnT at hown
  rw [hlen] at hown
  rcases hown.2 with ⟨h1, _⟩ | ⟨g', cap, cur, h1, h2, h3, h4, h5, h6, h7⟩
  · cases h1
  · injection h1 with h1 _ h1c
    injection h1 with h1
    injection h1 with h1
    subst h1
    subst h1c
    have hl5 : h.cells.length = 5 := rfl
    have hcl := cellsT_len hs
    rw [hn] at hcl
    have hfit : n * 5 + 0 + h.cells.length ≤ cur.size := by rw [h6, hl5]; omega
    have hst := run_storeCells_at P g (n * 5) e h.cells 0 cur w h3 hfit (fun u hu => cellsT_one (hs := [h]) (by simpa [cellsT] using hu))
    cases hq : P.info? ty with
    | none => simp [hq] at hi
    | some i =>
      have hsz : i.size = 5 := by simp [hq] at hi; omega
      have hrun : (storeVar ty ⟨g, n * 5, none⟩ h.v).run P w = .ok () (w.setRow g (cur.toList.take (n * 5 + 0) ++ h.cells ++ cur.toList.drop (n * 5 + 0 + h.cells.length)).toArray) := by
        rw [← hst]
        simp [storeVar, sizeOf, typeInfo, hq, Value.cells, hsz, TH.v, TH.cells]
      unfold Oper.wp execOp
      simp only [ho, hx, hy, Instr.storeAt, Instr.sureAddr, Sem.run_bind, Sem.run_pure, Result.andThen_ok, hrun]
      refine hK _ ?_ ⟨rfl, rfl, rfl, by simp, fun j _ hne => setRow_other w g j _ (fun e => hne (by rw [e]))⟩
      have ht : cur.toList.take (n * 5) = cellsT hs := by
        have e1 : (cur.toList.take ((n + 1) * 5)).take (n * 5) = cur.toList.take (n * 5) := by rw [List.take_take]; congr 1; omega
        rw [← e1, h7, cellsT_app, ← hcl, List.take_left]
      unfold OwnT
      rw [hlen2]
      refine ⟨by rw [cellsT_len, hlen2], .inr ⟨g, c, _, rfl, h2, setRow_heap w g cur _ e _ h3, h4, h5, ?_, ?_⟩⟩
      · simp only [List.size_toArray, List.length_append, List.length_take, List.length_drop, Array.length_toList, hl5]
        omega
      · have ht0 : cur.toList.take (n * 5 + 0) = cellsT hs := ht
        rw [ht0, cellsT_app]
        have e2 : cellsT [h] = h.cells := by simp [cellsT]
        rw [e2]
        have e3 : (cellsT hs ++ h.cells).length = (n + 1) * 5 := by rw [List.length_append, hcl, hl5]; omega
        rw [← e3]
        exact List.take_left
theorem step_store_last {P : Program} (w : World) {ops : Array Oper} {o : Oper} {a : Act} {K : Act → World → Prop} {Q : Exit → Act → World → Prop} {E : Prop} (hgd : o.guard = none) (ty : TypeId) (x y : Operand) (ho : o.op = .store ty x y)
    (base : Nat) (e : TypeId) (g n c : Nat) (hs : List TH) (z h : TH) (hn : hs.length = n) (hown : OwnT w base e (.slice (some ⟨g, 0, none⟩) (n + 1) c) (hs ++ [z]))
    (hx : a.eval x = .pointer (some ⟨g, n * 5, none⟩)) (hy : a.eval y = h.v) (hi : (P.info? ty).map (·.size) = some 5)
    (hK : ∀ w', OwnT w' base e (.slice (some ⟨g, 0, none⟩) (n + 1) c) (hs ++ [h]) → w.grownBy w' (some g) → K (a.put o.dst undef) w') : if Region.wanted o (yielded ops a.tmps) = true then Oper.wp P o a w K Q else E := by
  have hw : Region.wanted o (yielded ops a.tmps) = true := by simp [Region.wanted, hgd]
  rw [if_pos hw]
  exact wp_store_last w ty x y ho base e g n c hs z h hn hown hx hy hi hK
theorem step_append_trees {P : Program} (w : World) {ops : Array Oper} {o : Oper} {a : Act} {K : Act → World → Prop} {Q : Exit → Act → World → Prop} {E : Prop} (hgd : o.guard = none) (s x : Operand) (t : TypeId)
    (ho : o.op = .call { callee := .builtin .append, args := #[s, x], argTypes := #[t, t] })
    (base : Nat) (e : TypeId) (i : TypeInfo) (z : Value) (bytes : Nat) (ht : P.underlying t = some (.slice e)) (hi : P.info? e = some i) (hz : i.zero = some z)
    (hsize : i.size = 5) (hby : i.bytes = bytes) (hzs : z.cells.size = 5)
    (v : Value) (hs1 : List TH) (hs : a.eval s = v) (hown : OwnT w base e v hs1) (g c : Nat) (hs2 : List TH) (hx : a.eval x = .slice (some ⟨g, 0, none⟩) hs2.length c) (hcells : ∀ j u, (cellsT hs2)[j]? = some u → w.cell? ⟨g, j, none⟩ = some u)
    (hbytes : (hs1.length + hs2.length) * bytes ≤ 140737488355328) (hb0 : 0 < bytes) (hbase : base ≤ w.heap.size)
    (h : ∀ v' w', OwnT w' base e v' (hs1 ++ hs2) → w.grownBy w' v.ownBlock → (v'.ownBlock = v.ownBlock ∨ v'.ownBlock = some w.heap.size) → K (a.put o.dst v') w') : if Region.wanted o (yielded ops a.tmps) = true then Oper.wp P o a w K Q else E := by
  have hw : Region.wanted o (yielded ops a.tmps) = true := by simp [Region.wanted, hgd]
  rw [if_pos hw]
  exact wp_append_trees w s x t ho base e i z bytes ht hi hz hsize hby hzs v hs1 hs hown g c hs2 hx hcells hbytes hb0 hbase h
/-- The cells of a box, as a row of one. -/
theorem Box.row {W : World} {ty : TypeId} {g : Nat} {h : TH} (hb : Box W ty g h) : ∀ j u, (cellsT [h])[j]? = some u → W.cell? ⟨g, j, none⟩ = some u := by
  intro j u hu
  rw [cell_of_row W g j _ _ (0, 0) hb]
  have e2 : cellsT [h] = h.cells := by simp [cellsT]
  rw [e2] at hu
  simpa [TH.cells] using hu
/-- Heads and trees, side by side. -/
def Heads (w : World) (hs : List TH) (ts : List Tr) : Prop := hs.length = ts.length ∧ ∀ i (h1 : i < hs.length) (h2 : i < ts.length), InTree w hs[i] ts[i]
theorem Heads.nil (w : World) : Heads w [] [] := ⟨rfl, fun i h1 => by simp at h1⟩
theorem Heads.app {w : World} {a b : List TH} {s t : List Tr} (h : Heads w a s) (h' : Heads w b t) : Heads w (a ++ b) (s ++ t) := by
  refine ⟨by simp [h.1, h'.1], fun i h1 h2 => ?_⟩
  by_cases hi : i < a.length
  · rw [List.getElem_append_left hi, List.getElem_append_left (by rw [← h.1]; exact hi)]
    exact h.2 i hi _
  · have e1 : (a ++ b)[i] = b[i - a.length]'(by rw [List.length_append] at h1; omega) := List.getElem_append_right (by omega)
    have e2 : (s ++ t)[i] = t[i - s.length]'(by rw [List.length_append] at h2; have := h.1; omega) := List.getElem_append_right (by have := h.1; omega)
    rw [e1, e2]
    have e3 : i - s.length = i - a.length := by rw [h.1]
    simp only [e3]
    exact h'.2 _ _ _
theorem Heads.one {w : World} {h : TH} {t : Tr} (ht : InTree w h t) : Heads w [h] [t] := ⟨rfl, fun i h1 h2 => by
  have h0 : i = 0 := by simpa using h1
  subst h0
  exact ht⟩
theorem Var1.ne {w : World} {ty ty' : TypeId} {g g' : Nat} {v v' : Value} (h : Var1 w ty g v) (h' : Var1 w ty' g' v') (hne : ty ≠ ty') : g ≠ g' := by
  rintro rfl
  unfold Var1 at h h'
  rw [h] at h'
  injection h' with h'
  injection h' with _ h' _
  exact hne h'
theorem Box.neV {w : World} {ty ty' : TypeId} {g g' : Nat} {h0 : TH} {v' : Value} (h : Box w ty g h0) (h' : Var1 w ty' g' v') (hne : ty ≠ ty') : g ≠ g' := by
  rintro rfl
  unfold Box at h
  unfold Var1 at h'
  rw [h] at h'
  injection h' with h'
  injection h' with _ h' _
  exact hne h'
theorem OwnT.neV {w : World} {base : Nat} {ty ty' : TypeId} {g' : Nat} {v v' : Value} {hs : List TH} (h : OwnT w base ty v hs) (h' : Var1 w ty' g' v') (hne : ty ≠ ty') : some g' ≠ v.ownBlock := by
  rcases h.2 with ⟨h1, _⟩ | ⟨g, cap, cur, h1, h2, h3, _⟩
  · rw [h1]
    intro q
    cases q
  · rw [h1]
    intro q
    have q' : g' = g := Option.some.inj q
    subst q'
    unfold Var1 at h'
    rw [h3] at h'
    injection h' with h'
    injection h' with _ h' _
    exact hne h'
/-- Its form. -/
theorem OwnT.sl {W : World} {base : Nat} {ty : TypeId} {v : Value} {hs : List TH} (h : OwnT W base ty v hs) : ∃ a c, v = .slice a hs.length c := by
  rcases h.form with ⟨h1, h2⟩ | ⟨g, c, h1, _⟩
  · exact ⟨none, 0, by rw [h1, h2]; rfl⟩
  · exact ⟨_, c, h1⟩
theorem OwnT.far {W : World} {base : Nat} {ty : TypeId} {v : Value} {hs : List TH} (h : OwnT W base ty v hs) {p : Addr} (hp : some p.block ≠ v.ownBlock) (u : Value) : OwnT (W.setCell p u) base ty v hs := by
  refine ⟨h.1, ?_⟩
  rcases h.2 with h1 | ⟨g, cap, cur, h1, h2, h3, h4⟩
  · exact .inl h1
  · refine .inr ⟨g, cap, cur, h1, h2, ?_, h4⟩
    rw [Below.heap_setCell W p u g (fun e => hp (by rw [h1, ← e]; rfl))]
    exact h3
/-- The empty tree's head. -/
def hZ : TH := ⟨0, none, 0, 0, none, 0, 0, none, 0, 0, none, 0, 0⟩
end Go.Proofs.YtioifkbkllnkgaaDoor

/- Rows of records in one's own memory, and as arguments. No program is named here. -/
namespace Go.Proofs.YtioifkbkllnkgaaDoor
open Go.ChangeShapes Go.WideShapes Go.RowKit Go.Deep
set_option linter.unusedVariables false

/-- A kind of record: its cells. -/
structure Rec (R : Type) where
  cells : R → List Value
  sz : Nat
  pos : 0 < sz
  len : ∀ r, (cells r).length = sz
  one : ∀ r u, u ∈ cells r → u.oneCell' = true
section
variable {R : Type}
/-- The cells of records, one behind the other. -/
def Rec.row (c : Rec R) (rs : List R) : List Value := rs.flatMap c.cells
theorem Rec.row_len (c : Rec R) (rs : List R) : (c.row rs).length = rs.length * c.sz := by
  unfold Rec.row
  induction rs with
  | nil => simp
  | cons h r ih =>
    rw [List.flatMap_cons, List.length_append, ih, c.len, List.length_cons, Nat.succ_mul]
    omega
theorem Rec.row_app (c : Rec R) (a b : List R) : c.row (a ++ b) = c.row a ++ c.row b := by simp [Rec.row]
theorem Rec.row_single (c : Rec R) (a : R) : c.row [a] = c.cells a := by simp [Rec.row]
theorem Rec.row_one (c : Rec R) {rs : List R} {u : Value} (h : u ∈ c.row rs) : u.oneCell' = true := by
  unfold Rec.row at h
  rw [List.mem_flatMap] at h
  obtain ⟨x, _, hx⟩ := h
  exact c.one x u hx
theorem Rec.row_get (c : Rec R) (rs : List R) (i j : Nat) (hi : i < rs.length) (hj : j < c.sz) : (c.row rs)[i * c.sz + j]? = (c.cells rs[i])[j]? := by
  induction rs generalizing i with
  | nil => simp at hi
  | cons h r ih =>
    have e : c.row (h :: r) = c.cells h ++ c.row r := by simp [Rec.row]
    rw [e]
    rcases i with _ | i
    · rw [List.getElem?_append_left (by rw [c.len]; omega), Nat.zero_mul, Nat.zero_add]
      rfl
    · rw [List.getElem?_append_right (by rw [c.len, Nat.succ_mul]; omega)]
      have e2 : (i + 1) * c.sz + j - (c.cells h).length = i * c.sz + j := by rw [c.len, Nat.succ_mul]; omega
      rw [e2, ih i (by simpa using hi)]
      simp

/-- A row of records in new memory, from the block base on. -/
def OwnR (c : Rec R) (W : World) (base : Nat) (ty : TypeId) (v : Value) (rs : List R) : Prop := W.ownsRow base ty c.sz v rs.length (c.row rs)
variable {c : Rec R} {W W' : World} {base base' : Nat} {ty : TypeId} {v : Value} {rs : List R}
theorem OwnR.grown (h : OwnR c W base ty v rs) {row : Option Nat} (hg : W.grownBy W' row) (hne : v.ownBlock = none ∨ v.ownBlock ≠ row) : OwnR c W' base ty v rs := World.ownsRow.kept h hg hne
theorem OwnR.keep (h : OwnR c W base ty v rs) (hb : Below W.heap.size W W') : OwnR c W' base ty v rs :=
  h.grown (only_below hb none) (by by_cases h : v.ownBlock = none; exact .inl h; exact .inr h)
theorem OwnR.weak (h : OwnR c W base ty v rs) (hb : base' ≤ base) : OwnR c W base' ty v rs := by
  refine ⟨h.1, ?_⟩
  rcases h.2 with h1 | ⟨g, cap, cur, h1, h2, h3⟩
  · exact .inl h1
  · exact .inr ⟨g, cap, cur, h1, Nat.le_trans hb h2, h3⟩
theorem OwnR.nil (c : Rec R) (W : World) (base : Nat) (ty : TypeId) : OwnR c W base ty (.slice none 0 0) [] := ⟨by simp [Rec.row], .inl ⟨rfl, rfl⟩⟩
/-- Its block, and its cells. -/
theorem OwnR.form (h : OwnR c W base ty v rs) : (v = .slice none 0 0 ∧ rs = []) ∨ ∃ g k, v = .slice (some ⟨g, 0, none⟩) rs.length k ∧ base ≤ g ∧ g < W.heap.size ∧ rs.length ≤ k ∧ k ≤ maxLen ∧ ∀ j u, (c.row rs)[j]? = some u → W.cell? ⟨g, j, none⟩ = some u := by
  rcases h.2 with ⟨h1, h2⟩ | ⟨g, cap, cur, h1, h2, h3, h4, h5, h6, h7⟩
  · exact .inl ⟨h1, List.eq_nil_of_length_eq_zero h2⟩
  · right
    have hlt : g < W.heap.size := by
      rcases Nat.lt_or_ge g W.heap.size with hlt | hge
      · exact hlt
      · rw [Array.getElem?_eq_none hge] at h3; cases h3
    refine ⟨g, cap, h1, h2, hlt, h4, h5, fun j u hu => ?_⟩
    rw [cell_of_row W g j _ _ (0, 0) h3]
    rw [← h7, List.getElem?_take] at hu
    split at hu
    · simpa using hu
    · cases hu
theorem OwnR.sl (h : OwnR c W base ty v rs) : ∃ a k, v = .slice a rs.length k := by
  rcases h.form with ⟨h1, h2⟩ | ⟨g, k, h1, _⟩
  · exact ⟨none, 0, by rw [h1, h2]; rfl⟩
  · exact ⟨_, k, h1⟩
theorem OwnR.base_le (h : OwnR c W base ty v rs) {g : Nat} (hg : v.ownBlock = some g) : base ≤ g ∧ g < W.heap.size := by
  rcases h.form with ⟨h1, _⟩ | ⟨g', k, h1, h2, h3, _⟩
  · rw [h1] at hg; cases hg
  · rw [h1] at hg
    have e : g' = g := Option.some.inj hg
    subst e
    exact ⟨h2, h3⟩
/-- All cells of a row's block, the spare ones too. -/
def AllP (q : Value → Prop) (W : World) (v : Value) : Prop := ∀ g, v.ownBlock = some g → ∀ j u, W.cell? ⟨g, j, none⟩ = some u → q u
theorem zero_mem {z : Array Value} {n : Nat} {u : Value} (h : u ∈ Builtin.zeroCells z n) : u ∈ z := by
  unfold Builtin.zeroCells at h
  rw [Array.mem_map] at h
  obtain ⟨i, hi, rfl⟩ := h
  have hi' : i < n * z.size := by simpa using hi
  have hz : 0 < z.size := by
    rcases Nat.eq_zero_or_pos z.size with h0 | h0
    · rw [h0] at hi'; omega
    · exact h0
  have hm : i % z.size < z.size := Nat.mod_lt _ hz
  rw [getElem!_pos z (i % z.size) hm]
  exact Array.getElem_mem hm
theorem cell_mem {g : Nat} {cs : Array Value} {fr : Nat × Nat} {j : Nat} {u : Value} (h : W.heap[g]? = some (.cells cs ty fr)) (hu : W.cell? ⟨g, j, none⟩ = some u) : u ∈ cs := by
  rw [cell_of_row W g j _ _ fr h] at hu
  exact Array.mem_of_getElem? hu
/-- Where an append to a row of one's own puts it, and what is in its block. -/
theorem run_append_all {P : Program} (w : World) (base : Nat) (t ty e : TypeId) (i : TypeInfo) (z : Value) (size bytes : Nat) (ht : P.underlying t = some (.slice e)) (hi : P.info? e = some i) (hz : i.zero = some z)
    (hsize : i.size = size) (hby : i.bytes = bytes) (v : Value) (n : Nat) (xs : List Value) (hown : w.ownsRow base e size v n xs)
    (a : Addr) (m c : Nat) (news : List Value) (hl : news.length = m * size) (hnews : ∀ j u, news[j]? = some u → w.cell? (a.add j) = some u) (h1 : ∀ u ∈ news, u.oneCell' = true)
    (hm : 0 < m) (h63 : n + m ≤ maxLen) (hbytes : (n + m) * bytes ≤ 140737488355328) :
    ∃ v' w', (Builtin.append_ #[t, t] ty #[v, .slice (some a) m c]).run P w = .ok v' w' ∧ (v'.ownBlock = v.ownBlock ∨ v'.ownBlock = some w.heap.size) ∧
      ∀ q : Value → Prop, AllP q w v → (∀ u ∈ news, q u) → (∀ u ∈ z.cells, q u) → AllP q w' v' := by
  subst hsize
  subst hby
  simp only [maxLen] at h63
  rcases hown.2 with ⟨rfl, rfl⟩ | ⟨g, cap, cur, rfl, _, hg, _, _, hcs, htk⟩
  · refine ⟨_, _, run_append_nil (P := P) w t ty e i z ht hi hz a m c news hl hnews hm (by omega) (by simp only [Nat.zero_add] at hbytes; omega), .inr rfl, fun q _ hn hzq g' hg' j u hu => ?_⟩
    have e1 : w.heap.size = g' := Option.some.inj hg'
    subst e1
    have := cell_mem (heap_alloc_new w.drew _) hu
    rcases Array.mem_append.1 this with q1 | q1
    · exact hn u (by simpa using q1)
    · exact hzq u (zero_mem q1)
  · by_cases hroom : n + m ≤ cap
    · refine ⟨_, _, run_append_room (P := P) w t ty e i ht hi g n cap cur hg a m c news hl hnews h1 hroom (by rw [hl, hcs, ← Nat.add_mul]; exact Nat.mul_le_mul_right _ hroom), .inl rfl, fun q ha hn _ g' hg' j u hu => ?_⟩
      have e1 : g = g' := Option.some.inj hg'
      subst e1
      have hq : ∀ x ∈ cur, q x := fun x hx => by
        obtain ⟨k, hk, e⟩ := Array.getElem_of_mem hx
        exact ha g rfl k x (by rw [cell_of_row w g k _ _ (0, 0) hg, Array.getElem?_eq_getElem hk, e])
      have := cell_mem (setRow_heap w g cur _ e _ hg) hu
      simp only [List.mem_toArray, List.mem_append] at this
      rcases this with (q1 | q1) | q1
      · exact hq u (by simpa using List.mem_of_mem_take q1)
      · exact hn u q1
      · exact hq u (by simpa using List.mem_of_mem_drop q1)
    · refine ⟨_, _, run_append_grow (P := P) w t ty e i z ht hi hz ⟨g, 0, none⟩ n cap xs hown.1 (hown.cells (g := g) rfl) a m c news hl hnews (by omega) (by omega) (growslice_fits (by omega) hbytes), .inr rfl, fun q ha hn hzq g' hg' j u hu => ?_⟩
      have e1 : w.heap.size = g' := Option.some.inj hg'
      subst e1
      have hq : ∀ x ∈ cur, q x := fun x hx => by
        obtain ⟨k, hk, e⟩ := Array.getElem_of_mem hx
        exact ha g rfl k x (by rw [cell_of_row w g k _ _ (0, 0) hg, Array.getElem?_eq_getElem hk, e])
      have := cell_mem (heap_alloc_new w.drew _) hu
      rcases Array.mem_append.1 this with q1 | q1
      · rcases Array.mem_append.1 q1 with q2 | q2
        · refine hq u ?_
          have q3 : u ∈ xs := by simpa using q2
          rw [← htk] at q3
          simpa using List.mem_of_mem_take q3
        · exact hn u (by simpa using q2)
      · exact hzq u (zero_mem q1)
/-- append(a, r), of one record r that lies in a block g, to a row of one's own, at a step. -/
theorem wp_append_rec {P : Program} (w : World) {o : Oper} {a : Act} {K : Act → World → Prop} {Q : Exit → Act → World → Prop} (s x : Operand) (t : TypeId)
    (ho : o.op = .call { callee := .builtin .append, args := #[s, x], argTypes := #[t, t] }) (c : Rec R)
    (base : Nat) (e : TypeId) (i : TypeInfo) (z : Value) (bytes : Nat) (ht : P.underlying t = some (.slice e)) (hi : P.info? e = some i) (hz : i.zero = some z)
    (hsize : i.size = c.sz) (hby : i.bytes = bytes) (hzs : z.cells.size = c.sz)
    (v : Value) (rs : List R) (hs : a.eval s = v) (hown : OwnR c w base e v rs) (g k : Nat) (r : R) (hx : a.eval x = .slice (some ⟨g, 0, none⟩) 1 k) (hcells : ∀ j u, (c.cells r)[j]? = some u → w.cell? ⟨g, j, none⟩ = some u)
    (hbytes : (rs.length + 1) * bytes ≤ 140737488355328) (hb0 : 0 < bytes) (hbase : base ≤ w.heap.size)
    (h : ∀ v' w', OwnR c w' base e v' (rs ++ [r]) → w.grownBy w' v.ownBlock → (v'.ownBlock = v.ownBlock ∨ v'.ownBlock = some w.heap.size) → (∀ q : Value → Prop, AllP q w v → (∀ u ∈ c.cells r, q u) → (∀ u ∈ z.cells, q u) → AllP q w' v') → K (a.put o.dst v') w') : o.wp P a w K Q := by
  have hmax : rs.length + 1 ≤ maxLen := by
    have : rs.length + 1 ≤ (rs.length + 1) * bytes := Nat.le_mul_of_pos_right _ hb0
    simp only [maxLen]
    omega
  have hnews : ∀ j u, (c.cells r)[j]? = some u → w.cell? ((⟨g, 0, none⟩ : Addr).add j) = some u := fun j u hu => by
    have hp : (⟨g, 0, none⟩ : Addr).add j = ⟨g, j, none⟩ := by unfold Addr.add; split <;> simp_all
    rw [hp]
    exact hcells j u hu
  obtain ⟨v', w', hr, h2, h3, h4⟩ := run_append_own (P := P) w base t o.type e i z c.sz bytes ht hi hz hsize hby hzs c.pos v rs.length (c.row rs) hown ⟨g, 0, none⟩ 1 k (c.cells r) (by rw [c.len, Nat.one_mul]) hnews (fun u hu => c.one r u hu) hmax hbytes hbase
  obtain ⟨v2, w2, hr2, h5, h6⟩ := run_append_all (P := P) w base t o.type e i z c.sz bytes ht hi hz hsize hby v rs.length (c.row rs) hown ⟨g, 0, none⟩ 1 k (c.cells r) (by rw [c.len, Nat.one_mul]) hnews (fun u hu => c.one r u hu) (by omega) hmax hbytes
  rw [hr] at hr2
  injection hr2 with e1 e2
  subst e1 e2
  unfold Oper.wp execOp
  simp only [ho, resolve, invoke, builtin, Sem.run_bind, Sem.run_pure, Result.andThen_ok, List.map_toArray, List.map_cons, List.map_nil, hs, hx, hr]
  refine h v' w' ?_ h3 h5 h6
  unfold OwnR
  rw [c.row_app, c.row_single, List.length_append]
  exact h2
theorem step_append_rec {P : Program} (w : World) {ops : Array Oper} {o : Oper} {a : Act} {K : Act → World → Prop} {Q : Exit → Act → World → Prop} {E : Prop} (hgd : o.guard = none) (s x : Operand) (t : TypeId)
    (ho : o.op = .call { callee := .builtin .append, args := #[s, x], argTypes := #[t, t] }) (c : Rec R)
    (base : Nat) (e : TypeId) (i : TypeInfo) (z : Value) (bytes : Nat) (ht : P.underlying t = some (.slice e)) (hi : P.info? e = some i) (hz : i.zero = some z)
    (hsize : i.size = c.sz) (hby : i.bytes = bytes) (hzs : z.cells.size = c.sz)
    (v : Value) (rs : List R) (hs : a.eval s = v) (hown : OwnR c w base e v rs) (g k : Nat) (r : R) (hx : a.eval x = .slice (some ⟨g, 0, none⟩) 1 k) (hcells : ∀ j u, (c.cells r)[j]? = some u → w.cell? ⟨g, j, none⟩ = some u)
    (hbytes : (rs.length + 1) * bytes ≤ 140737488355328) (hb0 : 0 < bytes) (hbase : base ≤ w.heap.size)
    (h : ∀ v' w', OwnR c w' base e v' (rs ++ [r]) → w.grownBy w' v.ownBlock → (v'.ownBlock = v.ownBlock ∨ v'.ownBlock = some w.heap.size) → (∀ q : Value → Prop, AllP q w v → (∀ u ∈ c.cells r, q u) → (∀ u ∈ z.cells, q u) → AllP q w' v') → K (a.put o.dst v') w') : if Region.wanted o (yielded ops a.tmps) = true then Oper.wp P o a w K Q else E := by
  have hw : Region.wanted o (yielded ops a.tmps) = true := by simp [Region.wanted, hgd]
  rw [if_pos hw]
  exact wp_append_rec w s x t ho c base e i z bytes ht hi hz hsize hby hzs v rs hs hown g k r hx hcells hbytes hb0 hbase h

/-- Block g holds a record's cells. -/
def RBox (c : Rec R) (W : World) (ty : TypeId) (g : Nat) (r : R) : Prop := W.heap[g]? = some (.cells (c.cells r).toArray ty (0, 0))
variable {g : Nat} {r : R}
theorem RBox.lt (h : RBox c W ty g r) : g < W.heap.size := by
  rcases Nat.lt_or_ge g W.heap.size with hlt | hge
  · exact hlt
  · unfold RBox at h; rw [Array.getElem?_eq_none hge] at h; cases h
theorem RBox.below {B : Nat} (h : RBox c W ty g r) (hb : Below B W W') (hg : g < B) : RBox c W' ty g r := (hb.block g hg).trans h
theorem RBox.grown {row : Option Nat} (h : RBox c W ty g r) (hg : W.grownBy W' row) (hne : some g ≠ row) : RBox c W' ty g r := (hg.block g h.lt hne).trans h
theorem RBox.cell (h : RBox c W ty g r) (j : Nat) (u : Value) (hu : (c.cells r)[j]? = some u) : W.cell? ⟨g, j, none⟩ = some u := by
  rw [cell_of_row W g j _ _ (0, 0) h]
  simpa using hu
/-- A record is stored into its box. -/
theorem wpList_store_rec {P : Program} {ops : Array Oper} {rest : List Oper} {o : Oper} {a : Act} {w : World} {Q : Exit → Act → World → Prop} (hgd : o.guard = none) (ty : TypeId) (x y : Operand) (ho : o.op = .store ty x y) (c : Rec R)
    (g : Nat) (old new : R) (hx : a.eval x = .pointer (some ⟨g, 0, none⟩)) (hy : a.eval y = .agg (c.cells new).toArray) (t : TypeId) (hr : RBox c w t g old) (hi : (P.info? ty).map (·.size) = some c.sz)
    (h : ∀ w', RBox c w' t g new → w.grownBy w' (some g) → wpList P ops Q rest (a.put o.dst undef) w') : wpList P ops Q (o :: rest) a w := by
  refine wpList_store_row hgd ty x y ho g _ hx hy t _ hr (by rw [List.size_toArray, c.len]; exact hi) (by simp [c.len]) (by simp only [List.all_toArray, List.all_eq_true]; exact fun u hu => c.one new u hu) ?_
  exact h _ (setRow_heap w g _ _ t _ hr) ⟨rfl, rfl, rfl, by simp, fun j hj hne => setRow_other w g j _ (fun e => hne (by rw [e]))⟩

/-- Records that came in. -/
def InRec (c : Rec R) (w : World) (a : Option Addr) (n cap : Nat) (D : Nat → R) : Prop := InSl w a n cap c.sz (fun i => (c.cells (D (i / c.sz))).getD (i % c.sz) .nilIface)
theorem InRec.below {w w' : World} {a : Option Addr} {n cap : Nat} {D : Nat → R} (h : InRec c w a n cap D) (hb : Below w.heap.size w w') : InRec c w' a n cap D := InSl.below h hb
/-- The cells of the i-th record that came in. -/
theorem InRec.at {w : World} {a : Option Addr} {n cap : Nat} {D : Nat → R} (h : InRec c w a n cap D) (h0 : 0 < n) : ∃ g off, a = some ⟨g, off, none⟩ ∧ g < w.heap.size ∧ ∀ i, i < n → ∀ j u, (c.cells (D i))[j]? = some u → w.cell? ⟨g, off + i * c.sz + j, none⟩ = some u := by
  obtain ⟨g, off, e, hg, hc⟩ := InSl.place h h0
  refine ⟨g, off, e, hg, fun i hi j u hu => ?_⟩
  have hj : j < c.sz := by rw [← c.len (D i)]; exact (List.getElem?_eq_some_iff.1 hu).1
  have h1 := hc (i * c.sz + j) (by
    have : (i + 1) * c.sz ≤ n * c.sz := Nat.mul_le_mul_right _ hi
    rw [Nat.succ_mul] at this
    omega)
  have e1 : (i * c.sz + j) / c.sz = i := by rw [Nat.mul_comm, Nat.mul_add_div c.pos, Nat.div_eq_of_lt hj, Nat.add_zero]
  have e2 : (i * c.sz + j) % c.sz = j := by rw [Nat.mul_comm, Nat.mul_add_mod, Nat.mod_eq_of_lt hj]
  try dsimp only at h1
  rw [e1, e2, ← Nat.add_assoc] at h1
  rw [h1, List.getD, hu]
  rfl
/-- A row of one's own, as one that came in. -/
theorem OwnR.inRec {a : Option Addr} {n k : Nat} (h : OwnR c W base ty (.slice a n k) rs) (r0 : R) : rs.length = n ∧ InRec c W a n k (fun i => rs.getD i r0) := by
  rcases h.form with ⟨h1, h2⟩ | ⟨g, k', h1, _, hg, hl, hm, hc⟩
  · injection h1 with h1 h1n h1k
    subst h1 h1n h1k h2
    exact ⟨rfl, Nat.le_refl _, by simp [maxLen], fun _ => rfl, fun q => by omega⟩
  · injection h1 with h1 h1n h1k
    subst h1 h1n h1k
    refine ⟨rfl, hl, hm, (fun q => by cases q), fun _ => ⟨g, 0, rfl, hg, fun i hi => ?_⟩⟩
    have hd : i / c.sz < rs.length := Nat.div_lt_of_lt_mul (by rw [Nat.mul_comm]; exact hi)
    have hmo : i % c.sz < c.sz := Nat.mod_lt _ c.pos
    rw [Nat.zero_add]
    have e1 : rs.getD (i / c.sz) r0 = rs[i / c.sz] := by simp [List.getD, hd]
    dsimp only
    rw [e1]
    have hq := c.row_get rs (i / c.sz) (i % c.sz) hd hmo
    rw [show i / c.sz * c.sz + i % c.sz = i by rw [Nat.mul_comm]; exact Nat.div_add_mod i c.sz] at hq
    refine hc i _ ?_
    rw [hq, List.getD, List.getElem?_eq_getElem (by rw [c.len]; exact hmo)]
    rfl
end
section
variable {H : Type} {enc : TypeId × Value → H} {P : Program} {w : World} {base : Nat} {spare : Nat → Bool} {held : Bool} {R : Type}
end
end Go.Proofs.YtioifkbkllnkgaaDoor

/- A tree that is an argument is one that lies in memory. No program is named here. -/
namespace Go.Proofs.YtioifkbkllnkgaaDoor
open Go.ChangeShapes Go.WideShapes Go.RowKit Go.Deep
set_option linter.unusedVariables false

section
variable {H : Type} {enc : TypeId × Value → H} {P : Program} {w : World} {base : Nat} {spare : Nat → Bool} {held : Bool}
/-- A slice that came in: its cells, and that each element is read with less fuel. -/
theorem open_slF {t e : TypeId} {a : Option Addr} {n cap sz fuel : Nat} {x : DataW H × List MemPlace}
    (hu : P.underlying t = some (.slice e)) (hc : P.cellsOf e = sz) (hsz : 0 < sz)
    (h : DataW.trod enc P w base spare held fuel t [.slice a n cap] = some x) :
    ∃ V, InSl w a n cap sz V ∧ ∀ i, i < n → ∃ m x, m < fuel ∧ DataW.trod enc P w base spare held m e ((List.range sz).map fun j => V (i * sz + j)) = some x := by
  rcases DataW.trod_slice hu h with ⟨hcs, _⟩ | ⟨ad, len, cp, elems, rest, m, hfm, hcs, _, hb, hl, hm, hlen, hel, _, _⟩
  · simp at hcs
    obtain ⟨rfl, rfl, rfl⟩ := hcs
    exact ⟨fun _ => .nilIface, ⟨Nat.le_refl _, by simp [maxLen], fun _ => rfl, fun h => by omega⟩, fun i hi => by omega⟩
  · simp at hcs
    obtain ⟨rfl, rfl, rfl⟩ := hcs
    rw [hc] at hel
    have hx : ∀ i, i < n → ∃ cs', w.cells? base (ad.add (i * sz)) sz = some cs' ∧ ∃ y, DataW.trod enc P w base spare held m e cs' = some y := by
      intro i hi
      have h1 := hel i hi
      rw [List.getElem?_eq_getElem (by omega)] at h1
      obtain ⟨cs', h2, h3⟩ := Option.bind_eq_some_iff.1 h1
      exact ⟨cs', h2, _, h3⟩
    by_cases h0 : 0 < n
    · obtain ⟨g, off, spot⟩ := ad
      have hspot : spot = none := by
        obtain ⟨cs', h1, _⟩ := hx 0 (by omega)
        obtain ⟨_, hlen', hcc⟩ := World.cells?_some h1
        have h2 := hcc 0 hsz
        rw [List.getElem?_eq_getElem (by omega)] at h2
        simpa [Addr.add] using World.cell?_spot h2
      subst hspot
      have hadd : ∀ k, (⟨g, off, none⟩ : Addr).add k = ⟨g, off + k, none⟩ := fun k => by unfold Addr.add; split <;> simp_all
      have hadd2 : ∀ k j, ((⟨g, off, none⟩ : Addr).add k).add j = ⟨g, off + (k + j), none⟩ := fun k j => by
        rw [hadd k]
        unfold Addr.add
        split <;> simp_all
        omega
      have hcs : ∀ i, i < n → ∃ cs', cs'.length = sz ∧ (∀ j, j < sz → w.cell? ⟨g, off + (i * sz + j), none⟩ = cs'[j]?) ∧ ∃ y, DataW.trod enc P w base spare held m e cs' = some y := by
        intro i hi
        obtain ⟨cs', h1, h2⟩ := hx i hi
        obtain ⟨_, hlen', hcc⟩ := World.cells?_some h1
        exact ⟨cs', hlen', fun j hj => by have := hcc j hj; rwa [hadd2] at this, h2⟩
      refine ⟨fun i => (w.cell? ⟨g, off + i, none⟩).getD .nilIface, ⟨hl, hm, (fun h => by cases h), fun _ => ⟨g, off, rfl, ?_, fun i hi => ?_⟩⟩, fun i hi => ?_⟩
      · obtain ⟨cs', hlen', hcc, _⟩ := hcs 0 h0
        have h2 := hcc 0 hsz
        rw [List.getElem?_eq_getElem (by omega)] at h2
        exact World.block_lt_of_cell? w _ h2
      · obtain ⟨cs', hlen', hcc, _⟩ := hcs (i / sz) (Nat.div_lt_of_lt_mul (by rw [Nat.mul_comm]; exact hi))
        have h2 := hcc (i % sz) (Nat.mod_lt _ hsz)
        rw [show i / sz * sz + i % sz = i by rw [Nat.mul_comm]; exact Nat.div_add_mod i sz] at h2
        have h3 := Nat.mod_lt i hsz
        rw [List.getElem?_eq_getElem (by omega)] at h2
        simp only [h2, Option.getD_some]
      · obtain ⟨cs', hlen', hcc, y, ht⟩ := hcs i hi
        refine ⟨m, y, by omega, ?_⟩
        have e : ((List.range sz).map fun j => (w.cell? ⟨g, off + (i * sz + j), none⟩).getD .nilIface) = cs' := by
          apply List.ext_getElem
          · simp [hlen']
          · intro j h1 h2
            simp only [List.getElem_map, List.getElem_range]
            rw [hcc j (by omega), List.getElem?_eq_getElem h2]
            rfl
        rw [e]
        exact ht
    · obtain rfl : n = 0 := by omega
      exact ⟨fun _ => .nilIface, ⟨hl, hm, (fun h => by cases h), fun h => by omega⟩, fun i hi => by omega⟩

theorem slice_form {t e : TypeId} {fuel : Nat} {v : Value} {x : DataW H × List MemPlace} (hu : P.underlying t = some (.slice e)) (h : DataW.trod enc P w base spare held fuel t [v] = some x) : ∃ a n c, v = .slice a n c := by
  rcases DataW.trod_slice hu h with ⟨h1, _⟩ | ⟨a', l', c', _, _, _, _, h1, _⟩
  · simp at h1; exact ⟨_, _, _, h1⟩
  · simp at h1; exact ⟨_, _, _, h1⟩

theorem trod_tree {T B : TypeId} {f0 f1 f2 f3 f4 : Field} (he : P.underlying T = some (.struct #[f0, f1, f2, f3, f4])) (hc : P.cellsOf T = 5)
    (o0 : f0.offset = 0) (o1 : f1.offset = 1) (o2 : f2.offset = 2) (o3 : f3.offset = 3) (o4 : f4.offset = 4)
    (c0 : P.cellsOf f0.type = 1) (c1 : P.cellsOf f1.type = 1) (c2 : P.cellsOf f2.type = 1) (c3 : P.cellsOf f3.type = 1) (c4 : P.cellsOf f4.type = 1)
    (u0 : P.underlying f0.type = some (.int .i64)) (u1 : P.underlying f1.type = some (.slice B)) (u2 : P.underlying f2.type = some (.slice B)) (u3 : P.underlying f3.type = some (.slice B)) (u4 : P.underlying f4.type = some (.slice T))
    (hB : P.underlying B = some (.int .u8)) (hcB : P.cellsOf B = 1) (fuel : Nat) :
    ∀ (cs : List Value) (x : DataW H × List MemPlace), DataW.trod enc P w base spare held fuel T cs = some x → ∃ (hd : TH) (t : Tr), cs = hd.cells ∧ InTree w hd t := by
  induction fuel using Nat.strongRecOn with
  | ind fuel ih =>
  intro cs x hx
  obtain ⟨xs, n, hn, _, hl, hxl, hf⟩ := DataW.trod_struct he hx
  rw [hc] at hl
  obtain ⟨v0, v1, v2, v3, v4, rfl⟩ : ∃ v0 v1 v2 v3 v4, cs = [v0, v1, v2, v3, v4] := by
    rcases cs with _ | ⟨v0, _ | ⟨v1, _ | ⟨v2, _ | ⟨v3, _ | ⟨v4, _ | ⟨y, r⟩⟩⟩⟩⟩⟩ <;> simp at hl
    exact ⟨_, _, _, _, _, rfl⟩
  have hxs : xs.length = 5 := by simpa using hxl
  have g0 := hf 0 f0 rfl
  have g1 := hf 1 f1 rfl
  have g2 := hf 2 f2 rfl
  have g3 := hf 3 f3 rfl
  have g4 := hf 4 f4 rfl
  rw [o0, c0, List.getElem?_eq_getElem (by omega)] at g0
  rw [o1, c1, List.getElem?_eq_getElem (by omega)] at g1
  rw [o2, c2, List.getElem?_eq_getElem (by omega)] at g2
  rw [o3, c3, List.getElem?_eq_getElem (by omega)] at g3
  rw [o4, c4, List.getElem?_eq_getElem (by omega)] at g4
  replace g0 : DataW.trod enc P w base spare held n f0.type [v0] = some xs[0] := g0
  replace g1 : DataW.trod enc P w base spare held n f1.type [v1] = some xs[1] := g1
  replace g2 : DataW.trod enc P w base spare held n f2.type [v2] = some xs[2] := g2
  replace g3 : DataW.trod enc P w base spare held n f3.type [v3] = some xs[3] := g3
  replace g4 : DataW.trod enc P w base spare held n f4.type [v4] = some xs[4] := g4
  obtain ⟨k, e0, _, hwf⟩ := DataW.trod_int u0 g0
  obtain ⟨a1, n1, k1, rfl⟩ := slice_form u1 g1
  obtain ⟨a2, n2, k2, rfl⟩ := slice_form u2 g2
  obtain ⟨a3, n3, k3, rfl⟩ := slice_form u3 g3
  obtain ⟨a4, n4, k4, rfl⟩ := slice_form u4 g4
  obtain ⟨key, hkey⟩ := open_bytes (d := xs[1].1) (p := xs[1].2) u1 hB hcB ⟨n, g1⟩
  obtain ⟨val, hval⟩ := open_bytes (d := xs[2].1) (p := xs[2].2) u2 hB hcB ⟨n, g2⟩
  obtain ⟨dig, hdig⟩ := open_bytes (d := xs[3].1) (p := xs[3].2) u3 hB hcB ⟨n, g3⟩
  obtain ⟨V, hsl, hV⟩ := open_slF u4 hc (by omega) g4
  have hq : ∀ i, i < n4 → ∃ q : TH × Tr, ((List.range 5).map fun j => V (i * 5 + j)) = q.1.cells ∧ InTree w q.1 q.2 := by
    intro i hi
    obtain ⟨m, y, hm, hy⟩ := hV i hi
    obtain ⟨hd, t, h1, h2⟩ := ih m (by omega) _ _ hy
    exact ⟨(hd, t), h1, h2⟩
  have hnil : ∃ q : TH × Tr, True := ⟨(⟨0, none, 0, 0, none, 0, 0, none, 0, 0, none, 0, 0⟩, .mk 0 [] [] [] []), trivial⟩
  obtain ⟨Q, hQ⟩ : ∃ Q : Nat → TH × Tr, ∀ i, i < n4 → ((List.range 5).map fun j => V (i * 5 + j)) = (Q i).1.cells ∧ InTree w (Q i).1 (Q i).2 := by
    refine ⟨fun i => if hi : i < n4 then (hq i hi).choose else hnil.choose, fun i hi => ?_⟩
    simp only [hi, dif_pos]
    exact (hq i hi).choose_spec
  have hb := bounds_i64 hwf
  simp at e0
  refine ⟨⟨k, a1, n1, k1, a2, n2, k2, a3, n3, k3, a4, n4, k4⟩, .mk k key val dig ((List.range n4).map fun i => (Q i).2), by rw [e0]; rfl, ?_⟩
  refine .mk _ _ (fun i => (Q i).1) rfl hb.1 hb.2 hkey hval hdig ⟨hsl.le, hsl.max, hsl.nil, fun h0 => ?_⟩ (by simp [Tr.kids]) fun i hi => ?_
  · obtain ⟨g, off, e1, hg, hcc⟩ := hsl.place h0
    refine ⟨g, off, e1, hg, fun i hi => ?_⟩
    rw [hcc i hi]
    have h5 := (hQ (i / 5) (by dsimp only at hi; omega)).1
    have h6 : ((List.range 5).map fun j => V (i / 5 * 5 + j)).getD (i % 5) .nilIface = ((Q (i / 5)).1.cells).getD (i % 5) .nilIface := by rw [h5]
    have h7 : i % 5 < 5 := by omega
    have h8 : ((List.range 5).map fun j => V (i / 5 * 5 + j)).getD (i % 5) .nilIface = V (i / 5 * 5 + i % 5) := by
      simp [List.getD, h7]
    rw [h8, show i / 5 * 5 + i % 5 = i by omega] at h6
    rw [h6]
    rfl
  · simp only [Tr.kids, List.length_map, List.length_range] at hi
    simp only [Tr.kids, List.getElem_map, List.getElem_range]
    exact (hQ i hi).2
end
end Go.Proofs.YtioifkbkllnkgaaDoor

/- Records of two byte strings and a bit. No program is named here. -/
namespace Go.Proofs.YtioifkbkllnkgaaDoor
open Go.ChangeShapes Go.WideShapes Go.RowKit Go.Deep
set_option linter.unusedVariables false

/-- Two byte strings and a bit: a change (its key, its value, whether it is a deletion), a span (its beginning, its end, whether it is open). -/
structure DH where
  ka : Option Addr
  kn : Nat
  kc : Nat
  va : Option Addr
  vn : Nat
  vc : Nat
  out : Bool
def recD : Rec DH where
  cells := fun p => [.slice p.ka p.kn p.kc, .slice p.va p.vn p.vc, .bool p.out]
  sz := 3
  pos := by omega
  len := fun _ => rfl
  one := fun r u hu => by
    simp at hu
    rcases hu with rfl | rfl | rfl <;> rfl
def dZ : DH := ⟨none, 0, 0, none, 0, 0, false⟩

section
variable {H : Type} {enc : TypeId × Value → H} {P : Program} {w : World} {base : Nat} {spare : Nat → Bool} {held : Bool}
theorem trod_deed {T B : TypeId} {f0 f1 f2 : Field} (he : P.underlying T = some (.struct #[f0, f1, f2])) (hc : P.cellsOf T = 3)
    (o0 : f0.offset = 0) (o1 : f1.offset = 1) (o2 : f2.offset = 2) (c0 : P.cellsOf f0.type = 1) (c1 : P.cellsOf f1.type = 1) (c2 : P.cellsOf f2.type = 1)
    (u0 : P.underlying f0.type = some (.slice B)) (u1 : P.underlying f1.type = some (.slice B)) (u2 : P.underlying f2.type = some .bool) (hB : P.underlying B = some (.int .u8)) (hcB : P.cellsOf B = 1)
    (fuel : Nat) (cs : List Value) (x : DataW H × List MemPlace) (hx : DataW.trod enc P w base spare held fuel T cs = some x) :
    ∃ r : DH, cs = recD.cells r ∧ ∃ key val, InBytes w r.ka r.kn r.kc key ∧ InBytes w r.va r.vn r.vc val := by
  obtain ⟨xs, n, hn, _, hl, hxl, hf⟩ := DataW.trod_struct he hx
  rw [hc] at hl
  obtain ⟨v0, v1, v2, rfl⟩ : ∃ v0 v1 v2, cs = [v0, v1, v2] := by
    rcases cs with _ | ⟨v0, _ | ⟨v1, _ | ⟨v2, _ | ⟨y, r⟩⟩⟩⟩ <;> simp at hl
    exact ⟨_, _, _, rfl⟩
  have hxs : xs.length = 3 := by simpa using hxl
  have g0 := hf 0 f0 rfl
  have g1 := hf 1 f1 rfl
  have g2 := hf 2 f2 rfl
  rw [o0, c0, List.getElem?_eq_getElem (by omega)] at g0
  rw [o1, c1, List.getElem?_eq_getElem (by omega)] at g1
  rw [o2, c2, List.getElem?_eq_getElem (by omega)] at g2
  replace g0 : DataW.trod enc P w base spare held n f0.type [v0] = some xs[0] := g0
  replace g1 : DataW.trod enc P w base spare held n f1.type [v1] = some xs[1] := g1
  replace g2 : DataW.trod enc P w base spare held n f2.type [v2] = some xs[2] := g2
  obtain ⟨a0, n0, k0, rfl⟩ := slice_form u0 g0
  obtain ⟨a1, n1, k1, rfl⟩ := slice_form u1 g1
  obtain ⟨b, hb, _⟩ := DataW.trod_bool u2 g2
  simp at hb
  subst hb
  obtain ⟨key, hkey⟩ := open_bytes (d := xs[0].1) (p := xs[0].2) u0 hB hcB ⟨n, g0⟩
  obtain ⟨val, hval⟩ := open_bytes (d := xs[1].1) (p := xs[1].2) u1 hB hcB ⟨n, g1⟩
  exact ⟨⟨a0, n0, k0, a1, n1, k1, b⟩, rfl, key, val, hkey, hval⟩
end
end Go.Proofs.YtioifkbkllnkgaaDoor

/- Spans of keys: what the document says of them, as functions. No program is named here. -/
namespace Go.Proofs.YtioifkbkllnkgaaDoor
open Go.RowKit
set_option linter.unusedVariables false

/-- Is a key in a span? -/
def inS (f t : List Int) (o : Bool) (key : List Int) : Bool := !ltL key f && (o || ltL key t)
/-- The least key that may be there. -/
def leastS (f low : List Int) (hl : Bool) : List Int := if hl && !ltL low f then low ++ [0] else f
/-- Is no key there? -/
def emptyS (f t : List Int) (o : Bool) (low high : List Int) (hl hh : Bool) : Bool := (hh && !ltL (leastS f low hl) high) || (!o && !ltL (leastS f low hl) t)
/-- Between a key and the key followed by a byte 0 there is none. -/
theorem lt_zero : ∀ (a b : List Int), Bytes8 b → (ltL b (a ++ [0]) = !ltL a b)
  | [], [], _ => rfl
  | [], b :: y, h => by
    have h1 := h b (by simp)
    have e : ltL (b :: y) ([] ++ [0]) = false := by
      simp only [List.nil_append, ltL, Bool.or_eq_false_iff, decide_eq_false_iff_not, Bool.and_eq_false_iff]
      refine ⟨by omega, ?_⟩
      right
      trivial
    rw [e]
    rfl
  | a :: x, [], _ => by simp [ltL]
  | a :: x, b :: y, h => by
    have ih := lt_zero x y (fun z hz => h z (by simp [hz]))
    simp only [List.cons_append, ltL, ih]
    rcases (by omega : a < b ∨ a = b ∨ b < a) with c | c | c
    · have e1 : decide (b < a) = false := decide_eq_false (by omega)
      have e2 : (b == a) = false := by simp; omega
      have e3 : decide (a < b) = true := decide_eq_true c
      rw [e1, e2, e3]
      rfl
    · subst c
      simp
    · have e1 : decide (b < a) = true := decide_eq_true c
      have e2 : (a == b) = false := by simp; omega
      have e3 : decide (a < b) = false := decide_eq_false (by omega)
      rw [e1, e2, e3]
      rfl
theorem zero_lt (a : List Int) : ltL a (a ++ [0]) = true := by
  induction a with
  | nil => rfl
  | cons x a ih => simp [ltL, ih]
/-- The span's two byte strings lie in memory. -/
structure SpanIn (w : World) (h : DH) (f t : List Int) : Prop where
  f : InBytes w h.ka h.kn h.kc f
  t : InBytes w h.va h.vn h.vc t
theorem SpanIn.below {w w' : World} {h : DH} {f t : List Int} (x : SpanIn w h f t) (hb : Below w.heap.size w w') : SpanIn w' h f t := ⟨x.f.below hb, x.t.below hb⟩
def DH.v (h : DH) : Value := .agg #[.slice h.ka h.kn h.kc, .slice h.va h.vn h.vc, .bool h.out]
/-- The span's box: three cells. -/
theorem DH.box (w : World) (ty : TypeId) (h : DH) : RBox recD (w.alloc (.cells #[.slice h.ka h.kn h.kc, .slice h.va h.vn h.vc, .bool h.out] ty)) ty w.heap.size h := heap_alloc_new w _
theorem RBox.three {w : World} {ty : TypeId} {g : Nat} {h : DH} (x : RBox recD w ty g h) : w.cell? ⟨g, 0, none⟩ = some (.slice h.ka h.kn h.kc) ∧ w.cell? ⟨g, 1, none⟩ = some (.slice h.va h.vn h.vc) ∧ w.cell? ⟨g, 2, none⟩ = some (.bool h.out) := ⟨x.cell 0 _ rfl, x.cell 1 _ rfl, x.cell 2 _ rfl⟩
theorem bytes_zero {a : List Int} (h : Bytes8 a) : Bytes8 (a ++ [0]) := fun z hz => by
  rcases List.mem_append.1 hz with q | q
  · exact h z q
  · simp at q
    omega
end Go.Proofs.YtioifkbkllnkgaaDoor

/- AVL trees: what pairs they have behind an insertion, and behind a deletion. No program is named here. -/
namespace Go.Proofs.YtioifkbkllnkgaaDoor
set_option linter.unusedVariables false

abbrev KV := List Int × List Int
/-- The keys rise. -/
def Rise (l : List KV) : Prop := l.Pairwise fun p q => ltL p.1 q.1 = true
end Go.Proofs.YtioifkbkllnkgaaDoor

/- AVL trees as trees of layer 4; which trees are balanced. No program is named here. -/
namespace Go.Proofs.YtioifkbkllnkgaaDoor
set_option linter.unusedVariables false

def AT.tr : AT → Tr
  | .nil => .mk 0 [] [] [] []
  | .node l k v r => .mk 1 k v [] [l.tr, r.tr]
/-- Keys and values within their bounds. -/
def Lim (l : List KV) : Prop := ∀ p ∈ l, p.1.length ≤ 80 ∧ p.2.length ≤ 1024
/-- The nodes, by the order of their keys. -/
def AT.nodes : AT → List AT
  | .nil => []
  | .node l k v r => l.nodes ++ (.node l k v r :: r.nodes)
def AT.kv : AT → KV
  | .nil => ([], [])
  | .node _ k v _ => (k, v)
/-- Its kids' depths, one less the other. -/
def tiltT (t : Tr) : Int := ((t.kids.map depthT).getD 0 0 : Int) - ((t.kids.map depthT).getD 1 0 : Int)
/-- Do the keys rise, and is each node balanced? -/
def levelB (l : List Tr) : Bool := (List.range l.length).all fun i => (i == 0 || ltL (l.getD (i - 1) (.mk 0 [] [] [] [])).key (l.getD i (.mk 0 [] [] [] [])).key) && (decide (tiltT (l.getD i (.mk 0 [] [] [] [])) ≤ 1) && decide (-1 ≤ tiltT (l.getD i (.mk 0 [] [] [] []))))
def isT (t : Tr) : Bool := decide (checkT t = 0) && (fullT t && levelB (listT t))
end Go.Proofs.YtioifkbkllnkgaaDoor

/- The proof of a balanced tree for a span, as a function: its digest, its form, its nodes. No program is named here. -/
namespace Go.Proofs.YtioifkbkllnkgaaDoor
set_option linter.unusedVariables false

theorem dig_kids {k : Nat} {t : Tr} (h0 : t.k ≠ 0) (h3 : t.k ≠ 3) {p q z : List Int} (hv : valT k t = z) (hz : z.length = k) (h2 : t.kids.length = 2) (hx : digT k (t.kids[0]'(by omega)) = some p) (hy : digT k (t.kids[1]'(by omega)) = some q) :
    digT k t = some ((sumL (nodeL p ((sumL (pairL t.key z)).take k) q)).take k) := by
  rw [digT_node h0 h3 (by rw [hv]; exact hz) h2, hx, hy, hv]
theorem dig_two {k : Nat} (kd : Int) (key v d : List Int) (x y : Tr) (h0 : kd ≠ 0) (h3 : kd ≠ 3) {p q z : List Int} (hv : valT k (.mk kd key v d [x, y]) = z) (hz : z.length = k) (hx : digT k x = some p) (hy : digT k y = some q) :
    digT k (.mk kd key v d [x, y]) = some ((sumL (nodeL p ((sumL (pairL key z)).take k) q)).take k) :=
  dig_kids (t := .mk kd key v d [x, y]) h0 h3 hv hz rfl hx hy
/-- A tree's digest; no digest is asked for that there isn't. -/
def digA (k : Nat) (a : AT) : List Int := (digT k a.tr).getD []
/-- A value's digest. -/
def dvL (k : Nat) (v : List Int) : List Int := (sumL (valL v)).take k
theorem dvL_len {k : Nat} (hk : k ≤ 32) (v : List Int) : (dvL k v).length = k := take_sum_len hk _
/-- A tree's digest alone. -/
def hideA (k : Nat) (a : AT) : Tr := if a.isNil then .mk 0 [] [] [] [] else .mk 3 [] [] (digA k a) []
/-- The proof. -/
def showA (k : Nat) (f t : List Int) (o : Bool) : AT → Tr
  | .nil => .mk 0 [] [] [] []
  | .node l key v r =>
    if inS f t o key then .mk 1 key v [] [showA k f t o l, showA k f t o r]
    else if ltL key f then .mk 2 key [] (dvL k v) [hideA k l, showA k f t o r]
    else .mk 2 key [] (dvL k v) [showA k f t o l, hideA k r]
/-- The pairs that a partial tree tells. -/
def toldB (x : Tr) : Bool := x.k == 1
def toldT (t : Tr) : List KV := ((listT t).filter toldB).map fun x => (x.key, x.val)
end Go.Proofs.YtioifkbkllnkgaaDoor

/- What a proof shows of a span, as a function: its items, their order, what is covered. No program is named here. -/
namespace Go.Proofs.YtioifkbkllnkgaaDoor
set_option linter.unusedVariables false

/-- What stands in a proof: a key, dark or not, or a cut. -/
structure IT where
  cut : Bool
  dark : Bool
  key : List Int
  val : List Int
def itemsT (t : Tr) : List IT := t.fold fun t rs =>
  if t.k = 0 then [] else if t.k = 3 then [⟨true, false, [], []⟩] else rs.getD 0 [] ++ (⟨false, t.k == 2, t.key, t.val⟩ :: rs.getD 1 [])
theorem itemsT_0 {t : Tr} (h : t.k = 0) : itemsT t = [] := by
  unfold itemsT
  rw [Tr.fold_eq, if_pos h]
theorem itemsT_3 {t : Tr} (h : t.k = 3) : itemsT t = [⟨true, false, [], []⟩] := by
  unfold itemsT
  rw [Tr.fold_eq, if_neg (by omega), if_pos h]
theorem itemsT_node {t : Tr} (h0 : t.k ≠ 0) (h3 : t.k ≠ 3) (h2 : t.kids.length = 2) : itemsT t = itemsT (t.kids[0]'(by omega)) ++ (⟨false, t.k == 2, t.key, t.val⟩ :: itemsT (t.kids[1]'(by omega))) := by
  have e : itemsT t = (t.kids.map itemsT).getD 0 [] ++ (⟨false, t.k == 2, t.key, t.val⟩ :: (t.kids.map itemsT).getD 1 []) := by
    conv => lhs; unfold itemsT
    rw [Tr.fold_eq, if_neg h0, if_neg h3]
    rfl
  rw [e]
  simp [List.getD, h2]
theorem items_two (kd : Int) (key v d : List Int) (x y : Tr) (h0 : kd ≠ 0) (h3 : kd ≠ 3) : itemsT (.mk kd key v d [x, y]) = itemsT x ++ (⟨false, kd == 2, key, v⟩ :: itemsT y) := itemsT_node (t := .mk kd key v d [x, y]) h0 h3 rfl
/-- The next key, if there is one. -/
def nextI : List IT → List Int × Bool
  | [] => ([], false)
  | x :: l => if x.cut then nextI l else (x.key, true)
/-- Do the keys rise? -/
def keysI (l : List IT) : List IT := l.filter fun x => !x.cut
def riseI (l : List IT) : Bool := (List.range (keysI l).length).all fun i => i == 0 || ltL ((keysI l).getD (i - 1) ⟨false, false, [], []⟩).key ((keysI l).getD i ⟨false, false, [], []⟩).key
/-- The pairs that are told; none: the span is not covered. -/
def scanI (f t : List Int) (o : Bool) : List Int → Bool → List IT → Option (List KV)
  | _, _, [] => some []
  | low, has, x :: l =>
    if x.cut then (if emptyS f t o low (nextI l).1 has (nextI l).2 then scanI f t o low has l else none)
    else if inS f t o x.key then (if x.dark then none else (scanI f t o x.key true l).map fun r => (x.key, x.val) :: r)
    else scanI f t o x.key true l
theorem scan_cut {f t : List Int} {o : Bool} {low : List Int} {has : Bool} {x : IT} {l : List IT} (h : x.cut = true) : scanI f t o low has (x :: l) = if emptyS f t o low (nextI l).1 has (nextI l).2 then scanI f t o low has l else none := by rw [scanI, if_pos h]
theorem scan_key {f t : List Int} {o : Bool} {low : List Int} {has : Bool} {x : IT} {l : List IT} (h : x.cut = false) : scanI f t o low has (x :: l) = if inS f t o x.key then (if x.dark then none else (scanI f t o x.key true l).map fun r => (x.key, x.val) :: r) else scanI f t o x.key true l := by rw [scanI, if_neg (by rw [h]; simp)]
/-- All of it: the error's number, and the pairs. -/
def checkR (k : Nat) (root : List Int) (f t : List Int) (o : Bool) (p : Tr) : Nat × List KV :=
  if checkT p ≠ 0 then (checkT p, [])
  else match digT k p with
    | none => (3, [])
    | some d => if d ≠ root then (6, [])
      else if riseI (itemsT p) = false then (7, [])
      else match scanI f t o [] false (itemsT p) with
        | none => (8, [])
        | some l => (0, l)
/-- The last key of some items, or what was the last one before them. -/
def lastI (low : List Int) (has : Bool) : List IT → List Int × Bool
  | [] => (low, has)
  | x :: l => if x.cut then lastI low has l else lastI x.key true l
theorem last_app (low : List Int) (has : Bool) : ∀ (a b : List IT), lastI low has (a ++ b) = lastI (lastI low has a).1 (lastI low has a).2 b := by
  intro a
  induction a generalizing low has with
  | nil => intro b; rfl
  | cons x l ih =>
    intro b
    rw [List.cons_append, lastI, lastI]
    split
    · exact ih _ _ _
    · exact ih _ _ _
end Go.Proofs.YtioifkbkllnkgaaDoor

/- Boxes of trees that are written; a tree of two that were made; appends of bytes at a step. No program is named here. -/
namespace Go.Proofs.YtioifkbkllnkgaaDoor
open Go.RowKit
set_option linter.unusedVariables false

/-- A tree is stored into a box, at a step. -/
theorem wp_store_box {P : Program} {o : Oper} {a : Act} {w : World} {K : Act → World → Prop} {Q : Exit → Act → World → Prop} (ty : TypeId) (x y : Operand) (ho : o.op = .store ty x y)
    (g : Nat) (old new : TH) (hx : a.eval x = .pointer (some ⟨g, 0, none⟩)) (hy : a.eval y = new.v) (t : TypeId) (hr : Box w t g old) (hi : (P.info? ty).map (·.size) = some 5)
    (h : ∀ w', Box w' t g new → w.grownBy w' (some g) → K (a.put o.dst undef) w') : o.wp P a w K Q := by
  refine wp_store_row ty x y ho g _ hx hy t _ hr hi rfl (by simp [Value.oneCell']) ?_
  exact h _ (setRow_heap w g _ _ t _ hr) ⟨rfl, rfl, rfl, by simp, fun j hj hne => setRow_other w g j _ (fun e => hne (by rw [e]))⟩
theorem wpList_store_box {P : Program} {ops : Array Oper} {rest : List Oper} {o : Oper} {a : Act} {w : World} {Q : Exit → Act → World → Prop} (hgd : o.guard = none) (ty : TypeId) (x y : Operand) (ho : o.op = .store ty x y)
    (g : Nat) (old new : TH) (hx : a.eval x = .pointer (some ⟨g, 0, none⟩)) (hy : a.eval y = new.v) (t : TypeId) (hr : Box w t g old) (hi : (P.info? ty).map (·.size) = some 5)
    (h : ∀ w', Box w' t g new → w.grownBy w' (some g) → wpList P ops Q rest (a.put o.dst undef) w') : wpList P ops Q (o :: rest) a w :=
  wpList_plain hgd fun _ hK => wp_store_box ty x y ho g old new hx hy t hr hi fun w' h1 h2 => hK _ _ (h w' h1 h2)
theorem step_store_box {P : Program} {ops : Array Oper} {o : Oper} {a : Act} {w : World} {K : Act → World → Prop} {Q : Exit → Act → World → Prop} {E : Prop} (hgd : o.guard = none) (ty : TypeId) (x y : Operand) (ho : o.op = .store ty x y)
    (g : Nat) (old new : TH) (hx : a.eval x = .pointer (some ⟨g, 0, none⟩)) (hy : a.eval y = new.v) (t : TypeId) (hr : Box w t g old) (hi : (P.info? ty).map (·.size) = some 5)
    (h : ∀ w', Box w' t g new → w.grownBy w' (some g) → K (a.put o.dst undef) w') : if Region.wanted o (yielded ops a.tmps) = true then Oper.wp P o a w K Q else E := by
  have hw : Region.wanted o (yielded ops a.tmps) = true := by simp [Region.wanted, hgd]
  rw [if_pos hw]
  exact wp_store_box ty x y ho g old new hx hy t hr hi h
theorem Box.grown {w w' : World} {ty : TypeId} {g : Nat} {h : TH} {row : Option Nat} (hx : Box w ty g h) (hg : w.grownBy w' row) (hne : some g ≠ row) : Box w' ty g h := (hg.block g hx.lt hne).trans hx
/-- Block g holds two trees' cells. -/
def Two5 (w : World) (ty : TypeId) (g : Nat) (h1 h2 : TH) : Prop := w.heap[g]? = some (.cells #[.int .i64 h1.k, .slice h1.ka h1.kn h1.kc, .slice h1.va h1.vn h1.vc, .slice h1.da h1.dn h1.dc, .slice h1.ta h1.tn h1.tc, .int .i64 h2.k, .slice h2.ka h2.kn h2.kc, .slice h2.va h2.vn h2.vc, .slice h2.da h2.dn h2.dc, .slice h2.ta h2.tn h2.tc] ty (0, 0))
theorem Two5.new (w : World) (ty : TypeId) (h1 h2 : TH) : Two5 (w.alloc (.cells #[.int .i64 h1.k, .slice h1.ka h1.kn h1.kc, .slice h1.va h1.vn h1.vc, .slice h1.da h1.dn h1.dc, .slice h1.ta h1.tn h1.tc, .int .i64 h2.k, .slice h2.ka h2.kn h2.kc, .slice h2.va h2.vn h2.vc, .slice h2.da h2.dn h2.dc, .slice h2.ta h2.tn h2.tc] ty)) ty w.heap.size h1 h2 := heap_alloc_new w _
theorem Two5.lt {w : World} {ty : TypeId} {g : Nat} {h1 h2 : TH} (hx : Two5 w ty g h1 h2) : g < w.heap.size := by
  rcases Nat.lt_or_ge g w.heap.size with hlt | hge
  · exact hlt
  · unfold Two5 at hx; rw [Array.getElem?_eq_none hge] at hx; cases hx
theorem Two5.below {w w' : World} {ty : TypeId} {g B : Nat} {h1 h2 : TH} (hx : Two5 w ty g h1 h2) (hb : Below B w w') (hg : g < B) : Two5 w' ty g h1 h2 := (hb.block g hg).trans hx
/-- A tree of two kids that lie side by side. -/
theorem inTree_pair {w : World} {ty : TypeId} {g : Nat} {h1 h2 : TH} {c1 c2 : Tr} (hx : Two5 w ty g h1 h2) (i1 : InTree w h1 c1) (i2 : InTree w h2 c2) {k : Int} (hk1 : -9223372036854775808 ≤ k) (hk2 : k ≤ 9223372036854775807)
    {ka va da : Option Addr} {kn kc vn vc dn dc : Nat} {key val dig : List Int} (hkey : InBytes w ka kn kc key) (hval : InBytes w va vn vc val) (hdig : InBytes w da dn dc dig) :
    InTree w ⟨k, ka, kn, kc, va, vn, vc, da, dn, dc, some ⟨g, 0, none⟩, 2, 2⟩ (.mk k key val dig [c1, c2]) := by
  refine .mk _ _ (fun i => if i = 0 then h1 else h2) rfl hk1 hk2 hkey hval hdig ⟨Nat.le_refl _, by simp [maxLen], (fun h => by cases h), fun _ => ⟨g, 0, rfl, hx.lt, fun i hi => ?_⟩⟩ rfl (fun i hi => ?_)
  · have hi' : i < 10 := hi
    rw [Nat.zero_add, cell_of_row w g i _ _ (0, 0) hx]
    rcases (by omega : i = 0 ∨ i = 1 ∨ i = 2 ∨ i = 3 ∨ i = 4 ∨ i = 5 ∨ i = 6 ∨ i = 7 ∨ i = 8 ∨ i = 9) with rfl | rfl | rfl | rfl | rfl | rfl | rfl | rfl | rfl | rfl <;> rfl
  · have hi' : i < 2 := hi
    rcases (by omega : i = 0 ∨ i = 1) with rfl | rfl
    · exact i1
    · exact i2
theorem InBytes.agree {w w' : World} {a : Option Addr} {n c : Nat} {zs : List Int} (h : InBytes w a n c zs) (hs : w.heap.size ≤ w'.heap.size) (ha : ∀ ad, a = some ad → w'.heap[ad.block]? = w.heap[ad.block]?) : InBytes w' a n c zs :=
  ⟨h.len, h.bytes, h.le, h.max, h.nil, fun h0 => by
    obtain ⟨g, off, e, hlt, hc⟩ := h.place h0
    exact ⟨g, off, e, Nat.lt_of_lt_of_le hlt hs, hc.keep fun o => World.cell?_of_block (a := ⟨g, o, none⟩) (ha ⟨g, off, none⟩ e)⟩⟩
/-- The tree c lies below the world wb, and in the blocks from lo on that lie below hi, as they are in w. -/
def From (wb : World) (lo hi : Nat) (w : World) (h : TH) (c : Tr) : Prop := ∀ W : World, Below wb.heap.size wb W → hi ≤ W.heap.size → (∀ j, lo ≤ j → j < hi → W.heap[j]? = w.heap[j]?) → InTree W h c
end Go.Proofs.YtioifkbkllnkgaaDoor

/- A full tree does not lie in a box: what is written there leaves it as it is. No program is named here. -/
namespace Go.Proofs.YtioifkbkllnkgaaDoor
open Go.RowKit
set_option linter.unusedVariables false

end Go.Proofs.YtioifkbkllnkgaaDoor

/- Rows of pairs of a key and a value. No program is named here. -/
namespace Go.Proofs.YtioifkbkllnkgaaDoor
open Go.RowKit
set_option linter.unusedVariables false

/-- The head of a pair: its two cells. -/
structure PH where
  ka : Option Addr
  kn : Nat
  kc : Nat
  va : Option Addr
  vn : Nat
  vc : Nat
def recP : Rec PH where
  cells := fun p => [.slice p.ka p.kn p.kc, .slice p.va p.vn p.vc]
  sz := 2
  pos := by omega
  len := fun _ => rfl
  one := fun r u hu => by
    simp at hu
    rcases hu with rfl | rfl <;> rfl
/-- A slice's cell. -/
def isSl (u : Value) : Prop := ∃ a n c, u = .slice a n c
/-- Heads and pairs, side by side. -/
def PairsIn (w : World) (ps : List PH) (kvs : List KV) : Prop := ps.length = kvs.length ∧ ∀ i (h1 : i < ps.length) (h2 : i < kvs.length), InBytes w (ps[i]).ka (ps[i]).kn (ps[i]).kc (kvs[i]).1 ∧ InBytes w (ps[i]).va (ps[i]).vn (ps[i]).vc (kvs[i]).2
theorem PairsIn.below {w w' : World} {ps : List PH} {kvs : List KV} (h : PairsIn w ps kvs) (hb : Below w.heap.size w w') : PairsIn w' ps kvs := ⟨h.1, fun i h1 h2 => ⟨(h.2 i h1 h2).1.below hb, (h.2 i h1 h2).2.below hb⟩⟩
end Go.Proofs.YtioifkbkllnkgaaDoor

/- Boxes of trees, results that are trees, strings of bytes: the types alone are named. -/
namespace Go.Proofs.YtioifkbkllnkgaaDoor
open Go.RowKit
set_option linter.unusedVariables false

theorem infoTree2 : (Tryd.prog.info? 25).map (fun i => (i.zero, i.size, i.bytes)) = some (some (.agg #[.int .i64 0, .slice none 0 0, .slice none 0 0, .slice none 0 0, .slice none 0 0]), 5, 104) := by kernel_rfl
theorem infoTree5 : (Tryd.prog.info? 25).map (·.size) = some 5 := by kernel_rfl
/-- It answers a full tree; what was there stays. -/
def Tells (w : World) (a : AT) (e : Ending) (w' : World) : Prop := ∃ h', e = .returned h'.v ∧ InTree w' h' a.tr ∧ Below w.heap.size w w'
/-- A tree's box, and the tree. -/
structure BW (w W : World) (h : TH) (t : Tr) : Prop where
  box : Box W 25 w.heap.size h
  ti : InTree W h t
  b : Below w.heap.size w W
theorem BW.below {w W W' : World} {h : TH} {t : Tr} (d : BW w W h t) (hb : Below W.heap.size W W') : BW w W' h t := ⟨d.box.below hb d.box.lt, d.ti.lower hb, d.b.trans (hb.mono d.b.size)⟩
theorem BW.drew {w W : World} {h : TH} {t : Tr} (d : BW w W h t) : BW w W.drew h t := d.below (Below.refl _ _).drew
theorem BW.new (w : World) {h : TH} {t : Tr} (ht : InTree w h t) : BW w (w.alloc (.cells #[.int .i64 h.k, .slice h.ka h.kn h.kc, .slice h.va h.vn h.vc, .slice h.da h.dn h.dc, .slice h.ta h.tn h.tc] 25)) h t := ⟨Box.new w _ h, ht.lower ((Below.refl _ _).alloc (Nat.le_refl _) _), (Below.refl _ _).alloc (Nat.le_refl _) _⟩
/-- What lies there while a tree is turned: its box, the result's box, the kid's box. -/
structure RX (w W : World) (h hk : TH) : Prop where
  box : Box W 25 w.heap.size h
  res : Box W 25 (w.heap.size + 1) hZ
  kb : Box W 25 (w.heap.size + 2) hk
  b : Below w.heap.size w W
/-- A tree's box, the result's box, and the tree. -/
structure LX (w W : World) (h : TH) (t : Tr) : Prop where
  box : Box W 25 w.heap.size h
  res : Box W 25 (w.heap.size + 1) hZ
  ti : InTree W h t
  b : Below w.heap.size w W
theorem conv_key {w : World} {a : Option Addr} {n cap : Nat} {bs : List Int} (h : InBytes w a n cap bs) :
    (convert 22 9 (.slice a n cap)).run Tryd.prog w = .ok (.string (strOfNums bs)) w :=
  conv_in (P := Tryd.prog) h 22 5 9 Tryd.underlying22 Tryd.underlying5 Tryd.underlying9
end Go.Proofs.YtioifkbkllnkgaaDoor

/- Errors that are Codes. -/
namespace Go.Proofs.YtioifkbkllnkgaaDoor
open Go.RowKit
set_option linter.unusedVariables false

/-- An error that is one of api's Codes, itself; 0: none. -/
def codeV (k : Nat) : Value := if k = 0 then .nilIface else .iface 42 (.int .i64 k)
theorem compCode : (Tryd.prog.info? 42).map (·.comparable) = some true := by kernel_rfl
theorem eql_code (a b : Int) (w : World) : (binOp .eql 29 (.iface 42 (.int .i64 a)) (.iface 42 (.int .i64 b))).run Tryd.prog w = .ok (.bool (a == b)) w :=
  Lib.run_eql_iface_int w a b Tryd.underlying29 compCode Tryd.underlying42

end Go.Proofs.YtioifkbkllnkgaaDoor

/- What the program's scan tells, as its contracts say it: the types alone are named. -/
namespace Go.Proofs.YtioifkbkllnkgaaDoor
open Go.RowKit
set_option linter.unusedVariables false

/-- The point of a key. -/
def Points (w : World) (key : List Int) (e : Ending) (w' : World) : Prop := ∃ h' : DH, e = .returned h'.v ∧ SpanIn w' h' key (key ++ [0]) ∧ h'.out = false ∧ Below w.heap.size w w'
/-- Values that may be written: bytes, from the block base on. -/
def ValsOK (W : World) (base : Nat) (ps : List PH) : Prop := ∀ i (h : i < ps.length), 0 < (ps[i]).vn → ∃ g off, (ps[i]).va = some ⟨g, off, none⟩ ∧ base ≤ g ∧ g < W.heap.size ∧ ∀ k, k < (ps[i]).vn → W.frozen? ⟨g, off + k, none⟩ = false ∧ ∃ z, W.cell? ⟨g, off + k, none⟩ = some (.int .u8 z) ∧ 0 ≤ z ∧ z ≤ 255
/-- Range's error. -/
def RangeBad (w : World) (e : Ending) (w' : World) : Prop := ∃ a c, e = .returned (.tuple #[.slice a 0 c, codeV 3]) ∧ Below w.heap.size w w'
/-- Range's pairs. -/
def RangeOk (w : World) (kvs : List KV) (e : Ending) (w' : World) : Prop := ∃ ra r rc rs, e = .returned (.tuple #[.slice ra r rc, .nilIface]) ∧ OwnR recP w' w.heap.size 88 (.slice ra r rc) rs ∧ rs.length = r ∧ PairsIn w' rs kvs ∧ ValsOK w' w.heap.size rs ∧ Below w.heap.size w w'
/-- A law's own box of its span; the span's bytes lie in w. -/
structure SX (w W : World) (sp : DH) (f t : List Int) : Prop where
  box : RBox recD W 49 w.heap.size sp
  s : SpanIn w sp f t
  b : Below w.heap.size w W
theorem SX.below {w W W' : World} {sp : DH} {f t : List Int} (x : SX w W sp f t) (hb : Below W.heap.size W W') : SX w W' sp f t := ⟨x.box.below hb x.box.lt, x.s, x.b.trans (hb.mono x.b.size)⟩
theorem SX.sp {w W : World} {sp : DH} {f t : List Int} (x : SX w W sp f t) : SpanIn W sp f t := x.s.below x.b
theorem SX.new (w : World) {sp : DH} {f t : List Int} (h : SpanIn w sp f t) : SX w (w.alloc (.cells #[.slice sp.ka sp.kn sp.kc, .slice sp.va sp.vn sp.vc, .bool sp.out] 49)) sp f t := ⟨DH.box w _ sp, h, (Below.refl _ _).alloc (Nat.le_refl _) _⟩
end Go.Proofs.YtioifkbkllnkgaaDoor

/- What is told of a span: keys of the proof, in the span; of a point's span one at most. No program is named here. -/
namespace Go.Proofs.YtioifkbkllnkgaaDoor
set_option linter.unusedVariables false

theorem rise_pair {l : List IT} (h : riseI l = true) : ((keysI l).map (·.key)).Pairwise fun p q => ltL p q = true := by
  unfold riseI at h
  rw [List.all_eq_true] at h
  have step : ∀ i (hi : i + 1 < (keysI l).length), ltL ((keysI l)[i]'(by omega)).key ((keysI l)[i + 1]).key = true := fun i hi => by
    have q := h (i + 1) (List.mem_range.2 hi)
    simp only [List.getD, List.getElem?_eq_getElem hi, Nat.add_sub_cancel, List.getElem?_eq_getElem (show i < (keysI l).length by omega), Option.getD_some] at q
    rw [Bool.or_eq_true] at q
    rcases q with q | q
    · simp at q
    · exact q
  rw [List.pairwise_iff_getElem]
  intro i j hi hj hij
  rw [List.length_map] at hi hj
  simp only [List.getElem_map]
  have far : ∀ d (hd : i + d + 1 < (keysI l).length), ltL ((keysI l)[i]'hi).key ((keysI l)[i + d + 1]).key = true := by
    intro d
    induction d with
    | zero => exact fun hd => step i hd
    | succ d ih => exact fun hd => ltL_trans (ih (by omega)) (step (i + d + 1) hd)
  have q := far (j - i - 1) (by omega)
  have e : i + (j - i - 1) + 1 = j := by omega
  simp only [e] at q
  exact q
end Go.Proofs.YtioifkbkllnkgaaDoor

/- Partial trees by their kinds; the search for two unlike texts of one digest, as a function: what it finds is right; where it finds nothing, what covers a span tells the same. No program is named here. -/
namespace Go.Proofs.YtioifkbkllnkgaaDoor
set_option linter.unusedVariables false

/-- Digests have the width. -/
def PT.okP (k : Nat) : PT → Prop
  | .nil => True
  | .cut d => d.length = k
  | .shown l _ _ r => l.okP k ∧ r.okP k
  | .dark l _ d r => l.okP k ∧ d.length = k ∧ r.okP k
/-- The digest. -/
def PT.dgP (k : Nat) : PT → List Int
  | .nil => (sumL [3]).take k
  | .cut d => d
  | .shown l key v r => (sumL (nodeL (l.dgP k) ((sumL (pairL key (dvL k v))).take k) (r.dgP k))).take k
  | .dark l key d r => (sumL (nodeL (l.dgP k) ((sumL (pairL key d)).take k) (r.dgP k))).take k
theorem dig_split9 {k : Nat} {t : Tr} {zs : List Int} (h0 : t.k ≠ 0) (h3 : t.k ≠ 3) (h2 : t.kids.length = 2) (hd : digT k t = some zs) :
    (valT k t).length = k ∧ ∃ l r, digT k (t.kids[0]'(by omega)) = some l ∧ digT k (t.kids[1]'(by omega)) = some r ∧ zs = (sumL (nodeL l ((sumL (pairL t.key (valT k t))).take k) r)).take k := by
  by_cases hv : (valT k t).length = k
  · refine ⟨hv, ?_⟩
    rw [digT_node h0 h3 hv h2] at hd
    split at hd
    · rename_i l r e1 e2
      injection hd with hd
      exact ⟨l, r, e1, e2, hd.symm⟩
    · cases hd
  · rw [digT_bad h0 h3 hv] at hd
    cases hd
theorem PT.dg_ok {k : Nat} (hk : k ≤ 32) : ∀ p : PT, p.okP k → digT k p.tr = some (p.dgP k) := by
  intro p
  induction p with
  | nil => exact fun _ => digT_0 rfl
  | cut d =>
    intro h
    have q : digT k (PT.cut d).tr = if d.length = k then some d else none := digT_3 rfl
    rw [q, if_pos (show d.length = k from h)]
    rfl
  | shown l key v r ihl ihr => exact fun h => dig_two 1 key v [] _ _ (by decide) (by decide) rfl (dvL_len hk v) (ihl h.1) (ihr h.2)
  | dark l key d r ihl ihr => exact fun h => dig_two 2 key [] d _ _ (by decide) (by decide) rfl h.2.1 (ihl h.1) (ihr h.2.2)
theorem PT.ok_of {k : Nat} (hk : k ≤ 32) : ∀ (p : PT) (zs : List Int), digT k p.tr = some zs → p.okP k := by
  intro p
  induction p with
  | nil => exact fun _ _ => trivial
  | cut d =>
    intro zs h
    have q : digT k (PT.cut d).tr = if d.length = k then some d else none := digT_3 rfl
    rw [q] at h
    split at h
    · assumption
    · cases h
  | shown l key v r ihl ihr =>
    intro zs h
    obtain ⟨q1, x, y, q2, q3, -⟩ := dig_split9 (t := (PT.shown l key v r).tr) (by show (1 : Int) ≠ 0; decide) (by show (1 : Int) ≠ 3; decide) rfl h
    exact ⟨ihl x q2, ihr y q3⟩
  | dark l key d r ihl ihr =>
    intro zs h
    obtain ⟨q1, x, y, q2, q3, -⟩ := dig_split9 (t := (PT.dark l key d r).tr) (by show (2 : Int) ≠ 0; decide) (by show (2 : Int) ≠ 3; decide) rfl h
    exact ⟨ihl x q2, q1, ihr y q3⟩
theorem PT.dg_len {k : Nat} (hk : k ≤ 32) (p : PT) (h : p.okP k) : (p.dgP k).length = k := digT_len hk (p.dg_ok hk h)
/-- A tree's own preimage, and its pair's. -/
def PT.ownP (k : Nat) : PT → List Int
  | .nil => [3]
  | .cut d => d
  | .shown l key v r => nodeL (l.dgP k) ((sumL (pairL key (dvL k v))).take k) (r.dgP k)
  | .dark l key d r => nodeL (l.dgP k) ((sumL (pairL key d)).take k) (r.dgP k)
def PT.pairP (k : Nat) : PT → List Int
  | .nil => []
  | .cut _ => []
  | .shown _ key v _ => pairL key (dvL k v)
  | .dark _ key d _ => pairL key d
def PT.isCut : PT → Bool
  | .cut _ => true
  | _ => false
def PT.sval : PT → Option (List Int)
  | .shown _ _ v _ => some v
  | _ => none
def PT.left : PT → PT
  | .shown l _ _ _ => l
  | .dark l _ _ _ => l
  | _ => .nil
def PT.right : PT → PT
  | .shown _ _ _ r => r
  | .dark _ _ _ r => r
  | _ => .nil
/-- What is found at two nodes, and below them. -/
def stepS (k : Nat) (o pr : List Int) (sv : Option (List Int)) (sl sr : PT → Option (List Int × List Int)) (q : PT) : Option (List Int × List Int) :=
  if q.isCut then none
  else if o ≠ q.ownP k then some (o, q.ownP k)
  else if pr ≠ q.pairP k then some (pr, q.pairP k)
  else if sv.isSome && q.sval.isSome && (sv != q.sval) then some (valL (sv.getD []), valL (q.sval.getD []))
  else match sl q.left with
    | some x => some x
    | none => sr q.right
def searchP (k : Nat) : PT → PT → Option (List Int × List Int)
  | .nil, q => if q.isCut then none else if [3] ≠ q.ownP k then some ([3], q.ownP k) else none
  | .cut _, _ => none
  | .shown l key v r, q => stepS k ((PT.shown l key v r).ownP k) ((PT.shown l key v r).pairP k) (some v) (searchP k l) (searchP k r) q
  | .dark l key d r, q => stepS k ((PT.dark l key d r).ownP k) ((PT.dark l key d r).pairP k) none (searchP k l) (searchP k r) q
theorem PT.dg_own {k : Nat} {p : PT} (h : p.isCut = false) : p.dgP k = (sumL (p.ownP k)).take k := by
  cases p with
  | cut d => cases h
  | nil => rfl
  | shown l key v r => rfl
  | dark l key d r => rfl
theorem node_apart {a b c a' b' c' : List Int} (h1 : a.length = a'.length) (h2 : b.length = b'.length) (h : nodeL a b c = nodeL a' b' c') : a = a' ∧ b = b' ∧ c = c' := by
  unfold nodeL at h
  injection h with _ h
  obtain ⟨q1, q2⟩ := List.append_inj h h1
  obtain ⟨q3, q4⟩ := List.append_inj q2 h2
  exact ⟨q1, q3, q4⟩
theorem node_nil {a b c : List Int} : nodeL a b c ≠ [3] := fun h => by
  unfold nodeL at h
  injection h with h _
  omega
/-- Two nodes with one preimage: their parts' digests are the same. -/
theorem own_parts {k : Nat} (hk : k ≤ 32) {p q : PT} (hp : p.okP k) (hq : q.okP k) (c1 : p.isCut = false) (c2 : q.isCut = false) (hn : p.ownP k ≠ [3]) (h : p.ownP k = q.ownP k) :
    p.left.dgP k = q.left.dgP k ∧ (sumL (p.pairP k)).take k = (sumL (q.pairP k)).take k ∧ p.right.dgP k = q.right.dgP k ∧ p.left.okP k ∧ q.left.okP k ∧ p.right.okP k ∧ q.right.okP k := by
  have len : ∀ bs : List Int, ((sumL bs).take k).length = k := take_sum_len hk
  cases p with
  | nil => exact absurd rfl hn
  | cut d => cases c1
  | shown l key v r =>
    cases q with
    | nil => exact absurd h node_nil
    | cut d => cases c2
    | shown l' key' v' r' =>
      obtain ⟨q1, q2, q3⟩ := node_apart ((l.dg_len hk hp.1).trans (l'.dg_len hk hq.1).symm) ((len _).trans (len _).symm) h
      exact ⟨q1, q2, q3, hp.1, hq.1, hp.2, hq.2⟩
    | dark l' key' d' r' =>
      obtain ⟨q1, q2, q3⟩ := node_apart ((l.dg_len hk hp.1).trans (l'.dg_len hk hq.1).symm) ((len _).trans (len _).symm) h
      exact ⟨q1, q2, q3, hp.1, hq.1, hp.2, hq.2.2⟩
  | dark l key d r =>
    cases q with
    | nil => exact absurd h node_nil
    | cut d => cases c2
    | shown l' key' v' r' =>
      obtain ⟨q1, q2, q3⟩ := node_apart ((l.dg_len hk hp.1).trans (l'.dg_len hk hq.1).symm) ((len _).trans (len _).symm) h
      exact ⟨q1, q2, q3, hp.1, hq.1, hp.2.2, hq.2⟩
    | dark l' key' d' r' =>
      obtain ⟨q1, q2, q3⟩ := node_apart ((l.dg_len hk hp.1).trans (l'.dg_len hk hq.1).symm) ((len _).trans (len _).symm) h
      exact ⟨q1, q2, q3, hp.1, hq.1, hp.2.2, hq.2.2⟩
end Go.Proofs.YtioifkbkllnkgaaDoor

/- What the search finds are two unlike texts of one digest; in a tree and what hides parts of it nothing is found. No program is named here. -/
namespace Go.Proofs.YtioifkbkllnkgaaDoor
set_option linter.unusedVariables false

theorem value_apart {v v' : List Int} (h : v ≠ v') : valL v ≠ valL v' := fun e => by
  unfold valL at e
  injection e with _ e
  exact h e
theorem search_node {k : Nat} {p : PT} (h : p.isCut = false) (h0 : p.ownP k ≠ [3]) (q : PT) : searchP k p q = stepS k (p.ownP k) (p.pairP k) p.sval (searchP k p.left) (searchP k p.right) q := by
  cases p with
  | nil => exact absurd rfl h0
  | cut d => cases h
  | shown l key v r => rfl
  | dark l key d r => rfl
theorem search_nil {k : Nat} (q : PT) : searchP k .nil q = if q.isCut then none else if [3] ≠ q.ownP k then some ([3], q.ownP k) else none := rfl
/-- Two nodes of one pair's preimage have one key, and values of one digest. -/
theorem pair_parts {k : Nat} (hk : k ≤ 32) {p q : PT} (hp : p.short) (hq : q.short) {v v' : List Int} (e1 : p.sval = some v) (e2 : q.sval = some v') (h : p.pairP k = q.pairP k) : (sumL (valL v)).take k = (sumL (valL v')).take k := by
  cases p with
  | nil => cases e1
  | cut d => cases e1
  | dark l key d r => cases e1
  | shown l key w r =>
    cases q with
    | nil => cases e2
    | cut d => cases e2
    | dark l key d r => cases e2
    | shown l' key' w' r' =>
      injection e1 with e1
      injection e2 with e2
      subst e1 e2
      have h1 := hp.2.1
      have h2 := hq.2.1
      exact (pairL_inj (by omega) (by omega) h).2
/-- Two unlike texts of one digest. -/
def Clash (k : Nat) (x : List Int × List Int) : Prop := x.1 ≠ x.2 ∧ (sumL x.1).take k = (sumL x.2).take k
theorem PT.short_kids {p : PT} (h : p.short) : p.left.short ∧ p.right.short := by
  cases p with
  | nil => exact ⟨trivial, trivial⟩
  | cut d => exact ⟨trivial, trivial⟩
  | shown l key v r => exact ⟨h.1, h.2.2⟩
  | dark l key d r => exact ⟨h.1, h.2.2⟩
theorem step_right {k : Nat} (hk : k ≤ 32) {p q : PT} (hp : p.okP k) (hq : q.okP k) (sp : p.short) (sq : q.short) (hd : p.dgP k = q.dgP k) (hc : p.isCut = false) (h0 : p.ownP k ≠ [3])
    (ihl : ∀ q', q'.okP k → q'.short → p.left.dgP k = q'.dgP k → ∀ x, searchP k p.left q' = some x → Clash k x) (ihr : ∀ q', q'.okP k → q'.short → p.right.dgP k = q'.dgP k → ∀ x, searchP k p.right q' = some x → Clash k x) :
    ∀ x, searchP k p q = some x → Clash k x := by
  intro x hx
  rw [search_node hc h0] at hx
  unfold stepS at hx
  by_cases c1 : q.isCut = true
  · rw [if_pos c1] at hx; cases hx
  rw [if_neg c1] at hx
  have c1' : q.isCut = false := by simpa using c1
  rw [PT.dg_own hc, PT.dg_own c1'] at hd
  by_cases c2 : p.ownP k = q.ownP k
  · rw [if_neg (by simpa using c2)] at hx
    obtain ⟨e1, e2, e3, o1, o2, o3, o4⟩ := own_parts hk hp hq hc c1' h0 c2
    by_cases c3 : p.pairP k = q.pairP k
    · rw [if_neg (by simpa using c3)] at hx
      by_cases c4 : (p.sval.isSome && q.sval.isSome && (p.sval != q.sval)) = true
      · rw [if_pos c4] at hx
        injection hx with hx
        subst hx
        rw [Bool.and_eq_true, Bool.and_eq_true] at c4
        obtain ⟨⟨a1, a2⟩, a3⟩ := c4
        obtain ⟨v, hv⟩ := Option.isSome_iff_exists.1 a1
        obtain ⟨v', hv'⟩ := Option.isSome_iff_exists.1 a2
        rw [hv, hv'] at a3
        have hne : v ≠ v' := by
          intro e
          rw [e] at a3
          simp at a3
        rw [hv, hv']
        exact ⟨value_apart hne, pair_parts hk sp sq hv hv' c3⟩
      · rw [if_neg c4] at hx
        cases hl : searchP k p.left q.left with
        | some y =>
          rw [hl] at hx
          injection hx with hx
          subst hx
          exact ihl _ o2 (PT.short_kids sq).1 e1 _ hl
        | none =>
          rw [hl] at hx
          exact ihr _ o4 (PT.short_kids sq).2 e3 _ hx
    · rw [if_pos (by simpa using c3)] at hx
      injection hx with hx
      subst hx
      exact ⟨c3, e2⟩
  · rw [if_pos (by simpa using c2)] at hx
    injection hx with hx
    subst hx
    exact ⟨c2, hd⟩
theorem search_right {k : Nat} (hk : k ≤ 32) : ∀ (p q : PT), p.okP k → q.okP k → p.short → q.short → p.dgP k = q.dgP k → ∀ x, searchP k p q = some x → Clash k x := by
  intro p
  induction p with
  | nil =>
    intro q hp hq sp sq hd x hx
    rw [search_nil] at hx
    by_cases c1 : q.isCut = true
    · rw [if_pos c1] at hx; cases hx
    rw [if_neg c1] at hx
    have c1' : q.isCut = false := by simpa using c1
    rw [PT.dg_own (p := .nil) rfl, PT.dg_own c1'] at hd
    split at hx
    · rename_i c2
      injection hx with hx
      subst hx
      exact ⟨c2, hd⟩
    · cases hx
  | cut d =>
    intro q _ _ _ _ _ x hx
    cases hx
  | shown l key v r ihl ihr => exact fun q hp hq sp sq hd => step_right hk hp hq sp sq hd rfl node_nil (fun q' a b c => ihl q' hp.1 a sp.1 b c) (fun q' a b c => ihr q' hp.2 a sp.2.2 b c)
  | dark l key d r ihl ihr => exact fun q hp hq sp sq hd => step_right hk hp hq sp sq hd rfl node_nil (fun q' a b c => ihl q' hp.1 a sp.1 b c) (fun q' a b c => ihr q' hp.2.2 a sp.2.2 b c)
/-- Where nothing is found at two nodes: their preimages are the same, and nothing is found below. -/
theorem step_none {k : Nat} {p q : PT} (hc : p.isCut = false) (h0 : p.ownP k ≠ [3]) (c : q.isCut = false) (h : searchP k p q = none) :
    p.ownP k = q.ownP k ∧ p.pairP k = q.pairP k ∧ (∀ v v', p.sval = some v → q.sval = some v' → v = v') ∧ searchP k p.left q.left = none ∧ searchP k p.right q.right = none := by
  rw [search_node hc h0] at h
  unfold stepS at h
  rw [if_neg (by rw [c]; simp)] at h
  by_cases c2 : p.ownP k = q.ownP k
  · rw [if_neg (by simpa using c2)] at h
    by_cases c3 : p.pairP k = q.pairP k
    · rw [if_neg (by simpa using c3)] at h
      by_cases c4 : (p.sval.isSome && q.sval.isSome && (p.sval != q.sval)) = true
      · rw [if_pos c4] at h; cases h
      · rw [if_neg c4] at h
        cases hl : searchP k p.left q.left with
        | some y => rw [hl] at h; cases h
        | none =>
          rw [hl] at h
          refine ⟨c2, c3, fun v v' e1 e2 => ?_, rfl, h⟩
          rw [e1, e2] at c4
          simpa using c4
    · rw [if_pos (by simpa using c3)] at h; cases h
  · rw [if_pos (by simpa using c2)] at h; cases h
/-- In a tree and itself nothing is found. -/
theorem search_same {k : Nat} : ∀ p : PT, searchP k p p = none := by
  have step : ∀ p : PT, p.isCut = false → p.ownP k ≠ [3] → searchP k p.left p.left = none → searchP k p.right p.right = none → searchP k p p = none := fun p hc h0 hl hr => by
    rw [search_node hc h0]
    unfold stepS
    rw [if_neg (by rw [hc]; simp), if_neg (by simp), if_neg (by simp), if_neg (by simp), hl]
    exact hr
  intro p
  induction p with
  | nil =>
    rw [search_nil]
    rfl
  | cut d => rfl
  | shown l key v r ihl ihr => exact step _ rfl node_nil ihl ihr
  | dark l key d r ihl ihr => exact step _ rfl node_nil ihl ihr
/-- Nor in a tree and a digest alone. -/
theorem search_cut {k : Nat} (p : PT) (d : List Int) : searchP k p (.cut d) = none := by
  cases p <;> rfl
end Go.Proofs.YtioifkbkllnkgaaDoor

/- A node of a partial tree: its kids, its preimages. No program is named here. -/
namespace Go.Proofs.YtioifkbkllnkgaaDoor
open Go.RowKit
set_option linter.unusedVariables false

def PT.isNode : PT → Bool
  | .shown _ _ _ _ => true
  | .dark _ _ _ _ => true
  | _ => false
theorem PT.ind {P : PT → Prop} (h0 : P .nil) (hc : ∀ d, P (.cut d)) (hn : ∀ p, p.isNode = true → P p.left → P p.right → P p) : ∀ p, P p := by
  intro p
  induction p with
  | nil => exact h0
  | cut d => exact hc d
  | shown l key v r ihl ihr => exact hn _ rfl ihl ihr
  | dark l key d r ihl ihr => exact hn _ rfl ihl ihr
theorem PT.node_two {p : PT} (h : p.tr.kids.length = 2) : p.isNode = true := by
  cases p <;> first | rfl | cases h
theorem PT.node_cut {p : PT} (h : p.isNode = true) : p.isCut = false := by
  cases p <;> first | rfl | cases h
theorem PT.node_kids {p : PT} (h : p.isNode = true) : p.tr.kids = [p.left.tr, p.right.tr] := by
  cases p <;> first | rfl | cases h
theorem PT.node_kind {p : PT} (h : p.isNode = true) : p.tr.k = 1 ∨ p.tr.k = 2 := by
  cases p <;> first | exact .inl rfl | exact .inr rfl | cases h
theorem PT.node_own {p : PT} (h : p.isNode = true) (k : Nat) : p.ownP k = nodeL (p.left.dgP k) ((sumL (p.pairP k)).take k) (p.right.dgP k) := by
  cases p <;> first | rfl | cases h
theorem PT.node_three {p : PT} (h : p.isNode = true) (k : Nat) : p.ownP k ≠ [3] := by
  rw [PT.node_own h]
  exact node_nil
theorem PT.node_pair {p : PT} (h : p.isNode = true) (k : Nat) : p.pairP k = pairL p.tr.key (valT k p.tr) := by
  cases p <;> first | rfl | cases h
theorem PT.node_ok {k : Nat} (hk : k ≤ 32) {p : PT} (h : p.isNode = true) (ok : p.okP k) : p.left.okP k ∧ p.right.okP k ∧ (valT k p.tr).length = k := by
  cases p with
  | nil => cases h
  | cut d => cases h
  | shown l key v r => exact ⟨ok.1, ok.2, dvL_len hk v⟩
  | dark l key d r => exact ⟨ok.1, ok.2.2, ok.2.1⟩
theorem PT.cut_kind (p : PT) : (p.tr.k == 3) = p.isCut := by cases p <;> rfl
theorem PT.nil_kind {p : PT} (h : p.isNode = true) : (p.tr.k == 0) = false := by
  cases p <;> first | rfl | cases h
theorem PT.sval_kind (p : PT) : (p.tr.k == 1) = p.sval.isSome := by cases p <;> rfl
theorem PT.sval_of (p : PT) (h : p.sval.isSome = true) : p.sval = some p.tr.val := by
  cases p <;> first | rfl | cases h
theorem PT.tri (p : PT) (hc : p.isCut = false) : p = .nil ∨ p.isNode = true := by
  cases p with
  | nil => exact .inl rfl
  | cut d => cases hc
  | shown l key v r => exact .inr rfl
  | dark l key d r => exact .inr rfl
/-- Of two nodes of one preimage. -/
theorem PT.other_node {k : Nat} {p q : PT} (hp : p.isNode = true) (hc : q.isCut = false) (h : p.ownP k = q.ownP k) : q.isNode = true := by
  rcases q.tri hc with rfl | hq
  · exact absurd h (PT.node_three hp k)
  · exact hq
theorem PT.ind2 {P : PT → Prop} (h : ∀ p : PT, (p.isNode = true → P p.left ∧ P p.right) → P p) : ∀ p, P p :=
  PT.ind (h _ (fun q => by cases q)) (fun d => h _ (fun q => by cases q)) (fun p hn h1 h2 => h p (fun _ => ⟨h1, h2⟩))
theorem search_cut_l {k : Nat} {p : PT} (h : p.isCut = true) (q : PT) : searchP k p q = none := by
  cases p <;> first | rfl | cases h
theorem search_cut_r {k : Nat} (p : PT) {q : PT} (h : q.isCut = true) : searchP k p q = none := by
  cases q <;> first | exact search_cut p _ | cases h
theorem search_own {k : Nat} {p q : PT} (h : p.isCut = false) (hq : q.isCut = false) (ho : (p.ownP k == q.ownP k) = false) : searchP k p q = some (p.ownP k, q.ownP k) := by
  have ho' : p.ownP k ≠ q.ownP k := by simpa using ho
  rcases p.tri h with rfl | hn
  · have e : PT.ownP k .nil = [3] := rfl
    rw [e] at ho'
    rw [search_nil, if_neg (by rw [hq]; simp), if_pos ho']
    rfl
  · rw [search_node h (PT.node_three hn k)]
    unfold stepS
    rw [if_neg (by rw [hq]; simp), if_pos ho']
theorem search_both_nil {k : Nat} {q : PT} (hq : q.isCut = false) (ho : (PT.ownP k .nil == q.ownP k) = true) : searchP k .nil q = none := by
  have ho' : PT.ownP k .nil = q.ownP k := by simpa using ho
  have e : PT.ownP k .nil = [3] := rfl
  rw [e] at ho'
  rw [search_nil, if_neg (by rw [hq]; simp), if_neg (by rw [← ho']; simp)]
theorem search_pair {k : Nat} {p q : PT} (hn : p.isNode = true) (hq : q.isCut = false) (ho : (p.ownP k == q.ownP k) = true) (hp : (p.pairP k == q.pairP k) = false) : searchP k p q = some (p.pairP k, q.pairP k) := by
  have ho' : p.ownP k = q.ownP k := by simpa using ho
  have hp' : p.pairP k ≠ q.pairP k := by simpa using hp
  rw [search_node (PT.node_cut hn) (PT.node_three hn k)]
  unfold stepS
  rw [if_neg (by rw [hq]; simp), if_neg (by rw [ho']; simp), if_pos hp']
/-- Both values are told, and unlike. -/
def PT.valsB (p q : PT) : Bool := p.sval.isSome && q.sval.isSome && (p.sval != q.sval)
theorem PT.vals_eq (p q : PT) : p.valsB q = (p.sval.isSome && q.sval.isSome && !(p.tr.val == q.tr.val)) := by
  unfold PT.valsB
  cases h1 : p.sval.isSome with
  | false => rfl
  | true =>
    cases h2 : q.sval.isSome with
    | false => rfl
    | true =>
      rw [PT.sval_of p h1, PT.sval_of q h2]
      rfl
theorem search_val {k : Nat} {p q : PT} (hn : p.isNode = true) (hq : q.isCut = false) (ho : (p.ownP k == q.ownP k) = true) (hp : (p.pairP k == q.pairP k) = true) (hv : p.valsB q = true) : searchP k p q = some (valL (p.sval.getD []), valL (q.sval.getD [])) := by
  have ho' : p.ownP k = q.ownP k := by simpa using ho
  have hp' : p.pairP k = q.pairP k := by simpa using hp
  rw [search_node (PT.node_cut hn) (PT.node_three hn k)]
  unfold stepS
  unfold PT.valsB at hv
  rw [if_neg (by rw [hq]; simp), if_neg (by rw [ho']; simp), if_neg (by rw [hp']; simp), if_pos hv]
theorem search_rest {k : Nat} {p q : PT} (hn : p.isNode = true) (hq : q.isCut = false) (ho : (p.ownP k == q.ownP k) = true) (hp : (p.pairP k == q.pairP k) = true) (hv : p.valsB q = false) : searchP k p q = match searchP k p.left q.left with | some x => some x | none => searchP k p.right q.right := by
  have ho' : p.ownP k = q.ownP k := by simpa using ho
  have hp' : p.pairP k = q.pairP k := by simpa using hp
  rw [search_node (PT.node_cut hn) (PT.node_three hn k)]
  unfold stepS
  unfold PT.valsB at hv
  rw [if_neg (by rw [hq]; simp), if_neg (by rw [ho']; simp), if_neg (by rw [hp']; simp), if_neg (by rw [hv]; simp)]
  first
    | done
    | (cases searchP k p.left q.left <;> rfl)
theorem PT.formed_kids {p : PT} (h : p.isNode = true) (hf : formedT p.tr = true) : formedT p.left.tr = true ∧ formedT p.right.tr = true := by
  have q := hf
  rw [formedT_eq, Bool.and_eq_true, List.all_eq_true] at q
  rw [PT.node_kids h] at q
  exact ⟨q.2 _ (by simp), q.2 _ (by simp)⟩
end Go.Proofs.YtioifkbkllnkgaaDoor

/- The search by what the places of two trees tell: first their preimages, one by one, then what lies below. No program is named here. -/
namespace Go.Proofs.YtioifkbkllnkgaaDoor
open Go.RowKit
set_option linter.unusedVariables false

/-- The preimages that a tree's place tells: its own, its pair's, its value's. -/
def PT.preP (k : Nat) : PT → List (List Int)
  | .nil => [[3]]
  | .cut _ => []
  | .shown l key v r => [(PT.shown l key v r).ownP k, (PT.shown l key v r).pairP k, valL v]
  | .dark l key d r => [(PT.dark l key d r).ownP k, (PT.dark l key d r).pairP k]
def PT.kidsP : PT → List PT
  | .shown l _ _ r => [l, r]
  | .dark l _ _ r => [l, r]
  | _ => []
/-- The first two that are unlike. -/
def unlikeX (x : List Int × List Int) : Option (List Int × List Int) := if x.1 == x.2 then none else some x
def firstL (xs ys : List (List Int)) : Option (List Int × List Int) := (xs.zip ys).findSome? unlikeX
def belowX (k : Nat) (xs ys : List PT) : Option (List Int × List Int) := (xs.zip ys).findSome? fun x => searchP k x.1 x.2
theorem unlike_eq {a : List Int} : unlikeX (a, a) = none := by
  unfold unlikeX
  simp
theorem unlike_ne {a b : List Int} (h : (a == b) = false) : unlikeX (a, b) = some (a, b) := by
  unfold unlikeX
  simp only [h]
  rfl
theorem val_beq (u v : List Int) : (valL u == valL v) = (u == v) := by
  unfold valL
  rw [List.cons_beq_cons]
  simp
theorem firstL_nil (xs : List (List Int)) : firstL xs [] = none := by
  unfold firstL
  rw [List.zip_nil_right]
  rfl
theorem below_nil {k : Nat} (xs : List PT) : belowX k xs [] = none := by
  unfold belowX
  rw [List.zip_nil_right]
  rfl
theorem firstL_eq {a : List Int} {xs ys : List (List Int)} : firstL (a :: xs) (a :: ys) = firstL xs ys := by
  show List.findSome? _ ((a, a) :: xs.zip ys) = _
  rw [List.findSome?_cons, unlike_eq]
  rfl
theorem firstL_ne {a b : List Int} {xs ys : List (List Int)} (h : (a == b) = false) : firstL (a :: xs) (b :: ys) = some (a, b) := by
  show List.findSome? _ ((a, b) :: xs.zip ys) = _
  rw [List.findSome?_cons, unlike_ne h]
theorem below_two {k : Nat} {a b c d : PT} : belowX k [a, b] [c, d] = match searchP k a c with | some x => some x | none => searchP k b d := by
  show List.findSome? _ [(a, c), (b, d)] = _
  rw [List.findSome?_cons]
  cases searchP k a c with
  | some x => rfl
  | none =>
    show List.findSome? _ [(b, d)] = _
    rw [List.findSome?_cons]
    cases searchP k b d <;> rfl
theorem PT.pre_node {k : Nat} {p : PT} (h : p.isNode = true) : ∃ vs, p.preP k = p.ownP k :: p.pairP k :: vs ∧ vs = (match p.sval with | some v => [valL v] | none => []) := by
  cases p <;> first | exact ⟨_, rfl, rfl⟩ | cases h
theorem PT.kids_node {p : PT} (h : p.isNode = true) : p.kidsP = [p.left, p.right] := by
  cases p <;> first | rfl | cases h
theorem PT.kids_cut {p : PT} (h : p.isNode = false) : p.kidsP = [] := by
  cases p <;> first | rfl | cases h
theorem search_node_img {k : Nat} {p q : PT} (hp : p.isNode = true) (hq : q.isNode = true) : searchP k p q = match firstL (p.preP k) (q.preP k) with | some s => some s | none => belowX k p.kidsP q.kidsP := by
  obtain ⟨us, e1, hu⟩ := PT.pre_node (k := k) hp
  obtain ⟨vs, e2, hv⟩ := PT.pre_node (k := k) hq
  rw [e1, e2, PT.kids_node hp, PT.kids_node hq]
  cases ho : p.ownP k == q.ownP k with
  | false =>
    rw [search_own (PT.node_cut hp) (PT.node_cut hq) ho, firstL_ne ho]
  | true =>
    have ho' : p.ownP k = q.ownP k := by simpa using ho
    rw [← ho', firstL_eq]
    cases hr : p.pairP k == q.pairP k with
    | false => rw [search_pair hp (PT.node_cut hq) ho hr, firstL_ne hr]
    | true =>
      have hr' : p.pairP k = q.pairP k := by simpa using hr
      rw [← hr', firstL_eq, below_two]
      cases hb : p.valsB q with
      | true =>
        rw [search_val hp (PT.node_cut hq) ho hr hb]
        unfold PT.valsB at hb
        cases h1 : p.sval with
        | none => rw [h1] at hb; cases hb
        | some u =>
          cases h2 : q.sval with
          | none => rw [h1, h2] at hb; cases hb
          | some v =>
            rw [h1, h2] at hb
            rw [h1] at hu
            rw [h2] at hv
            have hne : (valL u == valL v) = false := by
              rw [val_beq]
              have : (some u != some v) = true := hb
              simpa using this
            rw [hu, hv]
            show _ = match firstL [valL u] [valL v] with | some s => some s | none => _
            first
              | (rw [firstL_ne hne]; done)
              | (rw [firstL_ne hne]; rfl)
      | false =>
        rw [search_rest hp (PT.node_cut hq) ho hr hb]
        have e : firstL us vs = none := by
          unfold PT.valsB at hb
          cases h1 : p.sval with
          | none =>
            rw [h1] at hu
            rw [hu]
            rfl
          | some u =>
            rw [h1] at hu
            cases h2 : q.sval with
            | none =>
              rw [h2] at hv
              rw [hv]
              exact firstL_nil us
            | some v =>
              rw [h1, h2] at hb
              rw [h2] at hv
              have : (some u != some v) = false := hb
              have he : u = v := by simpa using this
              rw [hu, hv, he]
              show firstL [valL v] [valL v] = none
              rw [firstL_eq]
              rfl
        first
          | (rw [e]; done)
          | (rw [e]; rfl)
theorem search_img (k : Nat) (p q : PT) : searchP k p q = match firstL (p.preP k) (q.preP k) with | some s => some s | none => belowX k p.kidsP q.kidsP := by
  cases hc : p.isCut with
  | true =>
    rw [search_cut_l hc]
    cases p <;> first | rfl | cases hc
  | false =>
    cases hd : q.isCut with
    | true =>
      rw [search_cut_r p hd]
      cases q with
      | cut d =>
        show none = match firstL (p.preP k) [] with | some s => some s | none => belowX k p.kidsP []
        rw [firstL_nil, below_nil]
      | nil => cases hd
      | shown l key v r => cases hd
      | dark l key v r => cases hd
    | false =>
      rcases p.tri hc with rfl | hp
      · rcases q.tri hd with rfl | hq
        · rw [search_nil, if_neg (by rw [hd]; simp), if_neg (by show ¬ ([3] : List Int) ≠ [3]; simp)]
          show none = match firstL [[3]] [[3]] with | some s => some s | none => belowX k [] []
          rw [firstL_eq]
          rfl
        · obtain ⟨vs, e2, -⟩ := PT.pre_node (k := k) hq
          have hne : (PT.ownP k .nil == q.ownP k) = false := by
            have := PT.node_three hq k
            show (([3] : List Int) == q.ownP k) = false
            simpa using fun h => this h.symm
          rw [search_own hc hd hne, e2]
          show _ = match firstL (PT.ownP k .nil :: []) (q.ownP k :: _) with | some s => some s | none => _
          rw [firstL_ne hne]
      · rcases q.tri hd with rfl | hq
        · obtain ⟨vs, e1, -⟩ := PT.pre_node (k := k) hp
          have hne : (p.ownP k == PT.ownP k .nil) = false := by
            have := PT.node_three hp k
            show (p.ownP k == ([3] : List Int)) = false
            simpa using this
          rw [search_own hc hd hne, e1]
          show _ = match firstL (p.ownP k :: _) (PT.ownP k .nil :: []) with | some s => some s | none => _
          rw [firstL_ne hne]
        · exact search_node_img hp hq
/-- A walk over a list, one more. -/
theorem some_more {α β : Type} (f : α → Option β) (l : List α) (i : Nat) (hi : i < l.length) (h : (l.take i).findSome? f = none) (hn : f l[i] = none) : (l.take (i + 1)).findSome? f = none := by
  rw [List.take_succ_eq_append_getElem hi, List.findSome?_append, h, List.findSome?_cons, hn]
  rfl
theorem some_here {α β : Type} (f : α → Option β) (l : List α) (i : Nat) (hi : i < l.length) (h : (l.take i).findSome? f = none) {b : β} (hn : f l[i] = some b) : l.findSome? f = some b := by
  have e : l = l.take i ++ l[i] :: l.drop (i + 1) := by simp
  rw [e, List.findSome?_append, h, List.findSome?_cons, hn]
  rfl
end Go.Proofs.YtioifkbkllnkgaaDoor

/- The empty tree. No program is named here. -/
namespace Go.Proofs.YtioifkbkllnkgaaDoor
open Go.RowKit
set_option linter.unusedVariables false

/-- The empty tree, and its head. -/
def tNil : Tr := .mk 0 [] [] [] []
def hNil : TH := ⟨0, none, 0, 0, none, 0, 0, none, 0, 0, none, 0, 0⟩
theorem in_nil (w : World) : InBytes w none 0 0 [] := ⟨rfl, (fun z hz => by cases hz), Nat.le_refl _, by simp [maxLen], fun _ => rfl, fun h => by omega⟩
theorem inTree_nil (w : World) : InTree w hNil tNil :=
  .mk hNil tNil (fun _ => hNil) rfl (by decide) (by decide) (in_nil w) (in_nil w) (in_nil w) ⟨Nat.le_refl _, by simp [maxLen, hNil], fun _ => rfl, fun h => absurd h (by decide)⟩ rfl (fun i hi => absurd hi (by simp [tNil, Tr.kids]))
end Go.Proofs.YtioifkbkllnkgaaDoor

/- Rows of one's own, of unlike types. -/
namespace Go.Proofs.YtioifkbkllnkgaaDoor
open Go.RowKit
set_option linter.unusedVariables false

/-- Rows of unlike types lie in unlike blocks. -/
theorem own_type {w : World} {base size n g : Nat} {e ty : TypeId} {v : Value} {xs : List Value} {cs : Array Value} {fr : Nat × Nat} (h : w.ownsRow base e size v n xs) (hg : v.ownBlock = some g) (hh : w.heap[g]? = some (.cells cs ty fr)) : ty = e := by
  rcases h.2 with ⟨rfl, _⟩ | ⟨g', c, cur, rfl, _, hq, _⟩
  · cases hg
  · have e1 : g' = g := Option.some.inj hg
    subst e1
    rw [hq] at hh
    injection hh with hh
    injection hh with _ hh
    exact hh.symm
theorem own_apart {w : World} {base base' size size' n n' : Nat} {e e' : TypeId} {v v' : Value} {xs xs' : List Value} (h : w.ownsRow base e size v n xs) (h' : w.ownsRow base' e' size' v' n' xs') (hne : e ≠ e') : v.ownBlock = none ∨ v.ownBlock ≠ v'.ownBlock := by
  rcases h.2 with ⟨rfl, _⟩ | ⟨g, c, cur, rfl, _, hq, _⟩
  · exact .inl rfl
  · right
    intro q
    exact hne (own_type h' q.symm hq)
theorem own_weak {w : World} {base base' size n : Nat} {e : TypeId} {v : Value} {xs : List Value} (h : w.ownsRow base e size v n xs) (hb : base' ≤ base) : w.ownsRow base' e size v n xs := by
  rcases h.2 with q | ⟨g, c, cur, q1, q2, q3⟩
  · exact ⟨h.1, .inl q⟩
  · exact ⟨h.1, .inr ⟨g, c, cur, q1, Nat.le_trans hb q2, q3⟩⟩
theorem own_in {w : World} {base n : Nat} {t : TypeId} {a : Option Addr} {m c : Nat} {zs : List Int} (h : w.ownsRow base t 1 (.slice a m c) n (zs.map (Value.int .u8))) (hb : Bytes8 zs) : InBytes w a m c zs := by
  obtain ⟨a', c', e, hi⟩ := own_any h hb
  injection e with e1 e2 e3
  subst e1 e2 e3
  exact hi
end Go.Proofs.YtioifkbkllnkgaaDoor

/- Trees that lie in new blocks alone; what the program's proofs tell, as their contracts say it. -/
namespace Go.Proofs.YtioifkbkllnkgaaDoor
open Go.RowKit
set_option linter.unusedVariables false

/-- A tree in the blocks from lo up to hi, and nowhere else. -/
def FreshT (lo hi : Nat) (w : World) (h : TH) (c : Tr) : Prop := ∀ W : World, hi ≤ W.heap.size → (∀ j, lo ≤ j → j < hi → W.heap[j]? = w.heap[j]?) → InTree W h c
section
variable {lo hi : Nat} {w w' : World} {h : TH} {c : Tr}
end
/-- Prove's proof. -/
def ProveOk (w : World) (c : Tr) (e : Ending) (w' : World) : Prop := ∃ h', e = .returned (.tuple #[h'.v, .nilIface]) ∧ FreshT w.heap.size w'.heap.size w' h' c ∧ Below w.heap.size w w'
/-- Prove's error: no tree, and a code. -/
def ProveErr (w : World) (n : Nat) (e : Ending) (w' : World) : Prop := ∃ h', e = .returned (.tuple #[h'.v, codeV n]) ∧ InTree w' h' tNil ∧ Below w.heap.size w w'
end Go.Proofs.YtioifkbkllnkgaaDoor

/- A partial tree does not lie in a box; leaves. No program is named here. -/
namespace Go.Proofs.YtioifkbkllnkgaaDoor
open Go.RowKit
set_option linter.unusedVariables false

/-- A part that its digest alone tells. -/
theorem inTree_leaf {w : World} {k : Int} (hk1 : -9223372036854775808 ≤ k) (hk2 : k ≤ 9223372036854775807) {da : Option Addr} {dn dc : Nat} {dig : List Int} (h : InBytes w da dn dc dig) : InTree w ⟨k, none, 0, 0, none, 0, 0, da, dn, dc, none, 0, 0⟩ (.mk k [] [] dig []) :=
  .mk _ _ (fun _ => hNil) rfl hk1 hk2 (none_in w) (none_in w) h ⟨Nat.le_refl _, by simp [maxLen], fun _ => rfl, fun h => absurd h (by simp)⟩ rfl (fun i hi => absurd hi (by simp [Tr.kids]))
end Go.Proofs.YtioifkbkllnkgaaDoor

/- Bytes, leaves and nodes that lie in new blocks alone. No program is named here. -/
namespace Go.Proofs.YtioifkbkllnkgaaDoor
open Go.RowKit
set_option linter.unusedVariables false

/-- Bytes in the blocks from lo up to hi, and nowhere else. -/
def FreshB (lo hi : Nat) (w : World) (a : Option Addr) (n c : Nat) (zs : List Int) : Prop := ∀ W : World, hi ≤ W.heap.size → (∀ j, lo ≤ j → j < hi → W.heap[j]? = w.heap[j]?) → InBytes W a n c zs
theorem FreshB.of {lo hi : Nat} {w : World} {a : Option Addr} {n c : Nat} {zs : List Int} (h : InBytes w a n c zs) (hp : ∀ y, a = some y → lo ≤ y.block ∧ y.block < hi) : FreshB lo hi w a n c zs := fun W h1 h2 =>
  ⟨h.len, h.bytes, h.le, h.max, h.nil, fun h0 => by
    obtain ⟨g, off, e, hlt, hc⟩ := h.place h0
    have q := hp _ e
    exact ⟨g, off, e, Nat.lt_of_lt_of_le q.2 h1, hc.keep fun o => World.cell?_of_block (a := ⟨g, o, none⟩) (h2 g q.1 q.2)⟩⟩
theorem FreshB.none (lo hi : Nat) (w : World) : FreshB lo hi w none 0 0 [] := fun W _ _ => none_in W
section
variable {lo hi lo' hi' : Nat} {w w' : World} {a : Option Addr} {n c : Nat} {zs : List Int}
theorem FreshB.below (f : FreshB lo hi w a n c zs) (hb : Below w.heap.size w w') (hs : hi ≤ w.heap.size) : FreshB lo hi w' a n c zs := fun W h1 h2 => f W h1 fun j hl hh => (h2 j hl hh).trans (hb.block j (by omega))
theorem FreshB.wide (f : FreshB lo hi w a n c zs) (h1 : lo' ≤ lo) (h2 : hi ≤ hi') : FreshB lo' hi' w a n c zs := fun W q1 q2 => f W (Nat.le_trans h2 q1) fun j hl hh => q2 j (by omega) (by omega)
theorem FreshB.agree (f : FreshB lo hi w a n c zs) (h1 : ∀ j, lo ≤ j → j < hi → w'.heap[j]? = w.heap[j]?) : FreshB lo hi w' a n c zs := fun W q1 q2 => f W q1 fun j hl hh => (q2 j hl hh).trans (h1 j hl hh)
end
end Go.Proofs.YtioifkbkllnkgaaDoor

/- Images of trees as they lie in memory: what the program's search sees. No program is named here. -/
namespace Go.Proofs.YtioifkbkllnkgaaDoor
open Go.ChangeShapes Go.WideShapes Go.RowKit Go.Deep
set_option linter.unusedVariables false

/-- A slice's head. -/
structure SLH where
  a : Option Addr
  n : Nat
  c : Nat
def recSl : Rec SLH where
  cells := fun s => [.slice s.a s.n s.c]
  sz := 1
  pos := by omega
  len := fun _ => rfl
  one := fun r u hu => by
    simp at hu
    subst hu
    rfl
/-- An image's head: the digest, the preimages, the kids. -/
structure IMH where
  sa : Option Addr
  sn : Nat
  sc : Nat
  pa : Option Addr
  pn : Nat
  pc : Nat
  ka : Option Addr
  kn : Nat
  kc : Nat
def IMH.v (h : IMH) : Value := .agg #[.slice h.sa h.sn h.sc, .slice h.pa h.pn h.pc, .slice h.ka h.kn h.kc]
def recIm : Rec IMH where
  cells := fun h => [.slice h.sa h.sn h.sc, .slice h.pa h.pn h.pc, .slice h.ka h.kn h.kc]
  sz := 3
  pos := by omega
  len := fun _ => rfl
  one := fun r u hu => by
    simp at hu
    rcases hu with rfl | rfl | rfl <;> rfl
def imZ : IMH := ⟨none, 0, 0, none, 0, 0, none, 0, 0⟩

/-- W has what w has, below B and from lo up to hi. -/
def Agree (B lo hi : Nat) (w W : World) : Prop := hi ≤ W.heap.size ∧ ∀ j, j < hi → (j < B ∨ lo ≤ j) → W.heap[j]? = w.heap[j]?
/-- It holds wherever that stays. -/
def Fr (B lo hi : Nat) (w : World) (X : World → Prop) : Prop := ∀ W, Agree B lo hi w W → X W
section
variable {B lo hi B' lo' hi' : Nat} {w w' : World} {X Y : World → Prop}
theorem Agree.self (h : hi ≤ w.heap.size) : Agree B lo hi w w := ⟨h, fun _ _ _ => rfl⟩
theorem Fr.self (f : Fr B lo hi w X) (h : hi ≤ w.heap.size) : X w := f w (Agree.self h)
theorem Fr.agree (f : Fr B lo hi w X) (h : ∀ j, j < hi → (j < B ∨ lo ≤ j) → w'.heap[j]? = w.heap[j]?) : Fr B lo hi w' X := fun W q => f W ⟨q.1, fun j h1 h2 => (q.2 j h1 h2).trans (h j h1 h2)⟩
theorem Fr.below (f : Fr B lo hi w X) (hb : Below w.heap.size w w') (hs : hi ≤ w.heap.size) : Fr B lo hi w' X := f.agree fun j h1 _ => hb.block j (by omega)
theorem Fr.grown {g : Nat} (f : Fr B lo hi w X) (hg : w.grownBy w' (some g)) (hs : hi ≤ w.heap.size) (hn : (B ≤ g ∧ g < lo) ∨ hi ≤ g) : Fr B lo hi w' X := f.agree fun j h1 h2 => hg.block j (by omega) (fun q => by injection q; omega)
theorem Fr.wide (f : Fr B lo hi w X) (h0 : B ≤ B') (h1 : lo' ≤ lo) (h2 : hi ≤ hi') : Fr B' lo' hi' w X := fun W q => f W ⟨Nat.le_trans h2 q.1, fun j a b => q.2 j (by omega) (by omega)⟩
theorem Fr.map (f : Fr B lo hi w X) (h : ∀ W, X W → Y W) : Fr B lo hi w Y := fun W q => h W (f W q)
end
theorem InSl.agree {B lo hi : Nat} {w W : World} {a : Option Addr} {n cap sz : Nat} {V : Nat → Value} (h : InSl w a n cap sz V) (hp : ∀ y, a = some y → y.block < hi ∧ (y.block < B ∨ lo ≤ y.block)) (hw : Agree B lo hi w W) : InSl W a n cap sz V :=
  ⟨h.le, h.max, h.nil, fun h0 => by
    obtain ⟨g, off, e, hg, hc⟩ := h.place h0
    have q := hp _ e
    exact ⟨g, off, e, Nat.lt_of_lt_of_le q.1 hw.1, fun i hi => (World.cell?_of_block (a := ⟨g, off + i, none⟩) (hw.2 g q.1 q.2)).trans (hc i hi)⟩⟩
/-- Bytes that were there at first. -/
theorem InBytes.frB {lo hi : Nat} {wb w : World} {a : Option Addr} {n cap : Nat} {bs : List Int} (h : InBytes wb a n cap bs) (hb : Below wb.heap.size wb w) (hs : wb.heap.size ≤ hi) : Fr wb.heap.size lo hi w (fun W => InBytes W a n cap bs) := fun W q =>
  ⟨h.len, h.bytes, h.le, h.max, h.nil, fun h0 => by
    obtain ⟨g, off, e, hg, hc⟩ := h.place h0
    exact ⟨g, off, e, Nat.lt_of_lt_of_le (Nat.lt_of_lt_of_le hg hs) q.1, hc.keep fun o => World.cell?_of_block (a := ⟨g, o, none⟩) ((q.2 g (by omega) (.inl hg)).trans (hb.block g hg))⟩⟩
theorem FreshB.fr {B lo hi : Nat} {w : World} {a : Option Addr} {n c : Nat} {zs : List Int} (f : FreshB lo hi w a n c zs) : Fr B lo hi w (fun W => InBytes W a n c zs) := fun W q => f W q.1 fun j h1 h2 => q.2 j h2 (.inr h1)
/-- Preimages: a row of texts. -/
structure PreAt (lo hi : Nat) (W : World) (a : Option Addr) (n c : Nat) (pre : List (List Int)) (D : Nat → SLH) : Prop where
  row : InRec recSl W a n c D
  len : pre.length = n
  all : ∀ i (h : i < pre.length), FreshB lo hi W (D i).a (D i).n (D i).c pre[i]
def PreX (lo hi : Nat) (a : Option Addr) (n c : Nat) (pre : List (List Int)) (W : World) : Prop := ∃ D, PreAt lo hi W a n c pre D
/-- The image of a tree that lies in world w; its texts lie in the blocks from lo up to hi. -/
inductive InImg (k lo hi : Nat) (w : World) : IMH → PT → Prop
  | mk (h : IMH) (P : PT) (D : Nat → SLH) (H : Nat → IMH) (sum : InBytes w h.sa h.sn h.sc (P.dgP k)) (pre : PreAt lo hi w h.pa h.pn h.pc (P.preP k) D)
      (row : InRec recIm w h.ka h.kn h.kc H) (len : P.kidsP.length = h.kn) (kids : ∀ i (hj : i < P.kidsP.length), InImg k lo hi w (H i) P.kidsP[i]) : InImg k lo hi w h P
structure KidAt (k lo hi : Nat) (W : World) (a : Option Addr) (n c : Nat) (kids : List PT) (H : Nat → IMH) : Prop where
  row : InRec recIm W a n c H
  len : kids.length = n
  all : ∀ i (h : i < kids.length), InImg k lo hi W (H i) kids[i]
def KidX (k lo hi : Nat) (a : Option Addr) (n c : Nat) (kids : List PT) (W : World) : Prop := ∃ H, KidAt k lo hi W a n c kids H
theorem InImg.parts {k lo hi : Nat} {w : World} {h : IMH} {P : PT} (x : InImg k lo hi w h P) : InBytes w h.sa h.sn h.sc (P.dgP k) ∧ PreX lo hi h.pa h.pn h.pc (P.preP k) w ∧ KidX k lo hi h.ka h.kn h.kc P.kidsP w := by
  cases x with
  | mk h P D H sum pre row len kids => exact ⟨sum, ⟨D, pre⟩, H, row, len, kids⟩
theorem InImg.of {k lo hi : Nat} {w : World} {h : IMH} {P : PT} (x1 : InBytes w h.sa h.sn h.sc (P.dgP k)) (x2 : PreX lo hi h.pa h.pn h.pc (P.preP k) w) (x3 : KidX k lo hi h.ka h.kn h.kc P.kidsP w) : InImg k lo hi w h P := by
  obtain ⟨D, x2⟩ := x2
  obtain ⟨H, x3⟩ := x3
  exact .mk h P D H x1 x2 x3.row x3.len x3.all
section
variable {k lo hi lo' hi' : Nat} {w w' : World} {a : Option Addr} {n c : Nat} {pre : List (List Int)} {kids : List PT} {D : Nat → SLH} {H : Nat → IMH} {h : IMH} {P : PT}
theorem PreAt.below (x : PreAt lo hi w a n c pre D) (hb : Below w.heap.size w w') (hs : hi ≤ w.heap.size) : PreAt lo hi w' a n c pre D := ⟨x.row.below hb, x.len, fun i q => (x.all i q).below hb hs⟩
theorem PreAt.wide (x : PreAt lo hi w a n c pre D) (h1 : lo' ≤ lo) (h2 : hi ≤ hi') : PreAt lo' hi' w a n c pre D := ⟨x.row, x.len, fun i q => (x.all i q).wide h1 h2⟩
theorem InImg.low (x : InImg k lo hi w h P) (hb : Below w.heap.size w w') (hs : hi ≤ w.heap.size) : InImg k lo hi w' h P := by
  induction x with
  | mk h P D H sum pre row len kids ih => exact .mk h P D H (sum.below hb) (pre.below hb hs) (row.below hb) len ih
theorem InImg.wide (x : InImg k lo hi w h P) (h1 : lo' ≤ lo) (h2 : hi ≤ hi') : InImg k lo' hi' w h P := by
  induction x with
  | mk h P D H sum pre row len kids ih => exact .mk h P D H sum (pre.wide h1 h2) row len ih
theorem KidAt.wide (x : KidAt k lo hi w a n c kids H) (h1 : lo' ≤ lo) (h2 : hi ≤ hi') : KidAt k lo' hi' w a n c kids H := ⟨x.row, x.len, fun i q => (x.all i q).wide h1 h2⟩
theorem PreX.wide (h1 : lo' ≤ lo) (h2 : hi ≤ hi') (W : World) (x : PreX lo hi a n c pre W) : PreX lo' hi' a n c pre W := x.elim fun D q => ⟨D, q.wide h1 h2⟩
theorem KidX.wide (h1 : lo' ≤ lo) (h2 : hi ≤ hi') (W : World) (x : KidX k lo hi a n c kids W) : KidX k lo' hi' a n c kids W := x.elim fun H q => ⟨H, q.wide h1 h2⟩
theorem PreX.nil (W : World) : PreX lo hi none 0 0 [] W := ⟨fun _ => ⟨none, 0, 0⟩, ⟨Nat.le_refl _, by simp [maxLen], fun _ => rfl, fun q => absurd q (Nat.lt_irrefl 0)⟩, rfl, fun i q => absurd q (Nat.not_lt_zero i)⟩
theorem KidX.nil (W : World) : KidX k lo hi none 0 0 [] W := ⟨fun _ => imZ, ⟨Nat.le_refl _, by simp [maxLen], fun _ => rfl, fun q => absurd q (Nat.lt_irrefl 0)⟩, rfl, fun i q => absurd q (Nat.not_lt_zero i)⟩
end
theorem Fr.preNil (B lo hi lo' hi' : Nat) (w : World) : Fr B lo hi w (PreX lo' hi' none 0 0 []) := fun W _ => PreX.nil W
theorem Fr.kidNil (k B lo hi lo' hi' : Nat) (w : World) : Fr B lo hi w (KidX k lo' hi' none 0 0 []) := fun W _ => KidX.nil W
/-- An image's parts, wherever what they lie in stays. -/
structure FrA (k B lo hi : Nat) (w : World) (h : IMH) (sum : List Int) (pre : List (List Int)) (kids : List PT) : Prop where
  sum : Fr B lo hi w (fun W => InBytes W h.sa h.sn h.sc sum)
  pre : Fr B lo hi w (PreX lo hi h.pa h.pn h.pc pre)
  kids : Fr B lo hi w (KidX k lo hi h.ka h.kn h.kc kids)
section
variable {k B lo hi B' lo' hi' : Nat} {w w' : World} {h : IMH} {sum : List Int} {pre : List (List Int)} {kids : List PT}
theorem FrA.below (f : FrA k B lo hi w h sum pre kids) (hb : Below w.heap.size w w') (hs : hi ≤ w.heap.size) : FrA k B lo hi w' h sum pre kids := ⟨f.sum.below hb hs, f.pre.below hb hs, f.kids.below hb hs⟩
theorem FrA.grown {g : Nat} (f : FrA k B lo hi w h sum pre kids) (hg : w.grownBy w' (some g)) (hs : hi ≤ w.heap.size) (hn : (B ≤ g ∧ g < lo) ∨ hi ≤ g) : FrA k B lo hi w' h sum pre kids := ⟨f.sum.grown hg hs hn, f.pre.grown hg hs hn, f.kids.grown hg hs hn⟩
theorem FrA.wide (f : FrA k B lo hi w h sum pre kids) (h0 : B ≤ B') (h1 : lo' ≤ lo) (h2 : hi ≤ hi') : FrA k B' lo' hi' w h sum pre kids := ⟨f.sum.wide h0 h1 h2, (f.pre.wide h0 h1 h2).map (PreX.wide h1 h2), (f.kids.wide h0 h1 h2).map (KidX.wide h1 h2)⟩
theorem FrA.img {P : PT} (f : FrA k B lo hi w h (P.dgP k) (P.preP k) P.kidsP) : Fr B lo hi w (fun W => InImg k lo hi W h P) := fun W q => InImg.of (f.sum W q) (f.pre W q) (f.kids W q)
end
/-- A row of new memory, as it stays. -/
theorem OwnR.inAgree {R : Type} {c : Rec R} {B lo hi base : Nat} {w W : World} {ty : TypeId} {a : Option Addr} {n k : Nat} {rs : List R} (h : OwnR c w base ty (.slice a n k) rs) (r0 : R) (hb : lo ≤ base) (hs : ∀ g, a = some ⟨g, 0, none⟩ → g < hi) (hw : Agree B lo hi w W) : rs.length = n ∧ InRec c W a n k (fun i => rs.getD i r0) := by
  obtain ⟨h1, h2⟩ := h.inRec r0
  refine ⟨h1, InSl.agree h2 (fun y e => ?_) hw⟩
  rcases h.form with ⟨q, _⟩ | ⟨g, k', q, hg, hl, _⟩
  · injection q with q
    rw [q] at e
    cases e
  · injection q with q
    rw [q] at e
    injection e with e
    subst e
    exact ⟨hs g q, .inr (Nat.le_trans hb hg)⟩
/-- New texts before others. -/
theorem PreX.cons {lo hi B base : Nat} {w : World} {ty : TypeId} {a : Option Addr} {n k : Nat} {s : SLH} {zs : List Int} {pre : List (List Int)} {n2 : Nat} {D : Nat → SLH}
    (ho : OwnR recSl w base ty (.slice a n k) (s :: (List.range n2).map D)) (hb : lo ≤ base) (hs : ∀ g, a = some ⟨g, 0, none⟩ → g < hi) (fz : FreshB lo hi w s.a s.n s.c zs) (hl : pre.length = n2) (hD : ∀ i (h : i < pre.length), FreshB lo hi w (D i).a (D i).n (D i).c pre[i]) :
    Fr B lo hi w (PreX lo hi a n k (zs :: pre)) := fun W q => by
  obtain ⟨e, hr⟩ := ho.inAgree ⟨none, 0, 0⟩ hb hs q
  refine ⟨_, hr, ?_, fun i h => ?_⟩
  · rw [← e]
    simp [hl]
  · have ag : ∀ j, lo ≤ j → j < hi → W.heap[j]? = w.heap[j]? := fun j h1 h2 => q.2 j h2 (.inr h1)
    cases i with
    | zero => exact fz.agree ag
    | succ i =>
      have hi2 : i < pre.length := by simpa using h
      have e2 : (s :: (List.range n2).map D).getD (i + 1) ⟨none, 0, 0⟩ = D i := by
        simp [List.getD, show i < n2 by omega]
      rw [e2]
      exact (hD i hi2).agree ag
/-- Two images, side by side. -/
theorem KidX.two {k lo hi B base : Nat} {w : World} {ty : TypeId} {a : Option Addr} {n c : Nat} {h1 h2 : IMH} {p q : PT} (ho : OwnR recIm w base ty (.slice a n c) [h1, h2]) (hb : lo ≤ base) (hs : ∀ g, a = some ⟨g, 0, none⟩ → g < hi)
    (f1 : Fr B lo hi w (fun W => InImg k lo hi W h1 p)) (f2 : Fr B lo hi w (fun W => InImg k lo hi W h2 q)) : Fr B lo hi w (KidX k lo hi a n c [p, q]) := fun W r => by
  obtain ⟨e, hr⟩ := ho.inAgree imZ hb hs r
  refine ⟨_, hr, e, fun i h => ?_⟩
  match i, h with
  | 0, _ => exact f1 W r
  | 1, _ => exact f2 W r
/-- A row that was just built. -/
theorem ownR_new {R : Type} (c : Rec R) (w : World) (ty : TypeId) (base : Nat) (rs : List R) (hb : base ≤ w.heap.size) (hl : rs.length ≤ maxLen) : OwnR c (w.alloc (.cells (c.row rs).toArray ty)) base ty (.slice (some ⟨w.heap.size, 0, none⟩) rs.length rs.length) rs :=
  ⟨c.row_len rs, .inr ⟨w.heap.size, rs.length, _, rfl, hb, heap_alloc_new w _, Nat.le_refl _, hl, by simp [c.row_len], by rw [← c.row_len, List.toList_toArray, List.take_length]⟩⟩
/-- append(a, b...): a is a row of one's own, b came in. -/
theorem wpList_append_inrec {P : Program} {R : Type} {c : Rec R} (w : World) {ops : Array Oper} {rest : List Oper} {o : Oper} {a : Act} {Q : Exit → Act → World → Prop} (hgd : o.guard = none) (s x : Operand) (t : TypeId)
    (ho : o.op = .call { callee := .builtin .append, args := #[s, x], argTypes := #[t, t] }) 
    (base : Nat) (e : TypeId) (i : TypeInfo) (z : Value) (bytes : Nat) (ht : P.underlying t = some (.slice e)) (hi : P.info? e = some i) (hz : i.zero = some z)
    (hsize : i.size = c.sz) (hby : i.bytes = bytes) (hzs : z.cells.size = c.sz)
    (v : Value) (rs : List R) (hs : a.eval s = v) (hown : OwnR c w base e v rs) (a2 : Option Addr) (n2 c2 : Nat) (D : Nat → R) (hx : a.eval x = .slice a2 n2 c2) (hin : InRec c w a2 n2 c2 D)
    (hbytes : (rs.length + n2) * bytes ≤ 140737488355328) (hb0 : 0 < bytes) (hbase : base ≤ w.heap.size)
    (h : ∀ v' w', OwnR c w' base e v' (rs ++ (List.range n2).map D) → w.grownBy w' v.ownBlock → wpList P ops Q rest (a.put o.dst v') w') : wpList P ops Q (o :: rest) a w := by
  rcases a2 with _ | ad
  · have hc0 := hin.nil rfl
    have hle := hin.le
    have hn0 : n2 = 0 := by omega
    subst hn0 hc0
    refine wpList_append_own_none hgd s x t ho base e i c.sz ht hi v rs.length (c.row rs) hs hown hx ?_
    exact h v w (by simpa using hown) (only_refl w _)
  · have hmax : rs.length + n2 ≤ maxLen := by
      have : rs.length + n2 ≤ (rs.length + n2) * bytes := Nat.le_mul_of_pos_right _ hb0
      simp only [maxLen]
      omega
    have hl2 : ((List.range n2).map D).length = n2 := by simp
    have hnews : ∀ j u, (c.row ((List.range n2).map D))[j]? = some u → w.cell? (ad.add j) = some u := fun j u hu => by
      have hj : j < n2 * c.sz := by
        have := (List.getElem?_eq_some_iff.1 hu).1
        rwa [c.row_len, hl2] at this
      have h0 : 0 < n2 := by
        rcases Nat.eq_zero_or_pos n2 with q | q
        · rw [q] at hj; omega
        · exact q
      obtain ⟨g, off, e1, hg, hc⟩ := hin.at h0
      injection e1 with e1
      subst e1
      have hp : (⟨g, off, none⟩ : Addr).add j = ⟨g, off + j, none⟩ := by unfold Addr.add; split <;> simp_all
      rw [hp]
      have hd : j / c.sz < n2 := Nat.div_lt_of_lt_mul (by rw [Nat.mul_comm]; exact hj)
      have hm : j % c.sz < c.sz := Nat.mod_lt _ c.pos
      have e2 : j / c.sz * c.sz + j % c.sz = j := by rw [Nat.mul_comm]; exact Nat.div_add_mod j c.sz
      have hr := c.row_get ((List.range n2).map D) (j / c.sz) (j % c.sz) (by rw [hl2]; exact hd) hm
      rw [e2, hu] at hr
      have e3 : ((List.range n2).map D)[j / c.sz]'(by rw [hl2]; exact hd) = D (j / c.sz) := by simp
      rw [e3] at hr
      have := hc (j / c.sz) hd (j % c.sz) u hr.symm
      rwa [Nat.add_assoc, e2] at this
    obtain ⟨v', w', hr, h2, h3, h4⟩ := run_append_own (P := P) w base t o.type e i z c.sz bytes ht hi hz hsize hby hzs c.pos v rs.length (c.row rs) hown ad n2 c2 (c.row ((List.range n2).map D)) (by rw [c.row_len, hl2]) hnews (fun u hu => c.row_one hu) hmax hbytes hbase
    refine wpList_plain hgd fun K hK => ?_
    unfold Oper.wp execOp
    simp only [ho, resolve, invoke, builtin, Sem.run_bind, Sem.run_pure, Result.andThen_ok, List.map_toArray, List.map_cons, List.map_nil, hs, hx, hr]
    refine hK _ _ (h v' w' ?_ h3)
    unfold OwnR
    rw [c.row_app, List.length_append, hl2]
    exact h2
end Go.Proofs.YtioifkbkllnkgaaDoor

/- The contracts of the program's Number and Bytes. -/
namespace Go.Proofs.YtioifkbkllnkgaaDoor
open Go.RowKit
set_option linter.unusedVariables false

theorem nd_of_len {v : Nat} {r : Int} (h : LenAt v r) : ∃ L : Nat, r = (L : Int) ∧ L ≤ 64 ∧ (L + 7) / 8 = nd v := by
  obtain ⟨k, l, rfl, h1, h2, h3, h4, h5⟩ := h
  have e0 : ((v : Int) / 256 ^ k) = ((v / 256 ^ k : Nat) : Int) := by rw [Int.natCast_ediv, Int.natCast_pow]; rfl
  rw [e0] at h3 h4
  have hn : k + 1 = nd v := by
    refine nd_unique ?_ (.inr ?_)
    · rw [← div_step]; omega
    · rw [Nat.add_sub_cancel]; omega
  exact ⟨8 * k + l.toNat, by omega, by omega, by omega⟩
theorem len64_any (v : Nat) (w : World) (hp : 0 < v) (hv : v < 18446744073709551616) :
    Calls Tryd.prog 96 #[.int .u64 v] w (fun e w' => (∃ L : Nat, e = .returned (.int .i64 L) ∧ L ≤ 64 ∧ (L + 7) / 8 = nd v) ∧ w' = w) :=
  (len64_raw v w (by omega) (by omega)).mono fun e w' ⟨⟨r, h1, h2⟩, h3⟩ => by
    obtain ⟨L, rfl, h⟩ := nd_of_len h2
    exact ⟨⟨L, h1, h⟩, h3⟩

/-- What has been written when i of the m bytes are there. -/
def part (m v i : Nat) : List Int := ((247 + m : Nat) : Int) :: (List.replicate (m - i) 0 ++ be i v)
theorem part_length (m v i : Nat) (h : i ≤ m) : (part m v i).length = m + 1 := by simp [part, be_length]; omega
theorem part_zero (m v : Nat) : part m v 0 = ((247 + m : Nat) : Int) :: List.replicate m 0 := by simp [part, be]
theorem part_set (m v i : Nat) (h : i < m) : (part m v i).set (m - i) ((v / 256 ^ i % 256 : Nat) : Int) = part m v (i + 1) := by
  have e1 : m - i = (m - (i + 1)) + 1 := by omega
  have e2 : List.replicate (m - i) (0 : Int) = List.replicate (m - (i + 1)) 0 ++ [0] := by rw [e1, List.replicate_succ']
  unfold part
  rw [e2]
  conv => lhs; rw [e1]
  rw [List.set_cons_succ, List.append_assoc, List.set_append_right _ _ (by simp)]
  simp [be]
theorem shr_is (v i : Nat) : (v : Int) / 2 ^ (8 * (i : Int)).toNat = ((v / 256 ^ i : Nat) : Int) := by
  rw [show (8 * (i : Int)).toNat = 8 * i by omega, Int.natCast_ediv, Int.natCast_pow, Int.pow_mul]
  rfl

set_option maxRecDepth 100000 in
set_option maxHeartbeats 2000000 in
theorem number_any (v : Nat) (w : World) (hv : v < 18446744073709551616) :
    Calls Tryd.prog 89 #[.int .u64 v] w (OwnPost w (numL v)) := by
  obtain ⟨i0, hi0, hz0, hz1, hz2⟩ := info_parts infoU8
  go_enter Tryd.func89, Tryd.ntmps89
  by_cases h : v < 248
  · have hb : (v : Int) ≤ 247 := by omega
    go_wp2_with fail
    go_ret
    have e : numL v = [(v : Int)] := by unfold numL; rw [if_pos h]
    rw [e]
    exact ⟨w.heap.size, 1, rfl, own_new w 5 .u8 [(v : Int)] w.heap.size (Nat.le_refl _) (by simp [maxLen]), (Below.refl _ _).alloc (Nat.le_refl _) _⟩
  · have hb : ¬ (v : Int) ≤ 247 := by omega
    have hm1 := nd_one (v := v) (by omega)
    have hm8 := nd_64 hv
    have hlen := Lib.hid (fun W => len64_any v W (by omega) hv)
    obtain ⟨m, hm⟩ : ∃ m, m = nd v := ⟨_, rfl⟩
    rw [← hm] at hm1 hm8 hlen
    have HM := Lib.hid hm
    clear hm
    go_wp2_with (first
      | (go_at_call 96
         (with_reducible refine (hlen.out _).mono ?_)
         rintro _ w1 ⟨⟨L, rfl, hL1, hL2⟩, rfl⟩
         have hLq : ((L : Int) + 7) / 8 = (m : Int) := by omega
         have hLq2 : ((L : Int) + 7).tdiv 8 = (m : Int) := by rw [Int.tdiv_eq_ediv_of_nonneg (by omega)]; exact hLq)
      | (at_make
         refine wpList_make_ints _ rfl (.tmp 16) (.tmp 16) 22 rfl 5 i0 .u8 Tryd.underlying22 hi0 hz0 hz1 .i64 .i64 _ _ (1 + m) rfl rfl (by push_cast; omega) (by push_cast; omega) (by rw [hz2]; omega) (by simp only [maxLen]; omega) ?_
         intro w2 hr2 hb2 hs2
         obtain ⟨z0, hc0⟩ := hr2.has 0 (by simp; omega)
         have hf0 := hr2.frozen 0
         have HR2 := Lib.hid hr2
         have HB2 := Lib.hid hb2
         clear hr2 hs2 hb2))
    have hrow : Row .u8 (w2.setCell ⟨w1.heap.size, 0, none⟩ (.int .u8 (247 + (m : Int)))) 5 w1.heap.size (part m v 0) := by
      have h := HR2.out.set 0 (247 + (m : Int))
      rw [part_zero, show (((247 + m : Nat)) : Int) = 247 + (m : Int) by omega]
      rwa [Nat.add_comm 1 m, List.replicate_succ, List.set_cons_zero] at h
    have hbel : Below w1.heap.size w1 (w2.setCell ⟨w1.heap.size, 0, none⟩ (.int .u8 (247 + (m : Int)))) := HB2.out.setCell (Nat.le_refl _) _
    have H0 := Lib.hid (And.intro hrow hbel)
    clear hrow hbel HR2 HB2 hc0 hf0 hLq hLq2 hL1 hL2 hlen
    go_loopw [24] (fun s24 wx => ∃ i : Nat, i ≤ m ∧ s24 = .int .i64 i ∧ Row .u8 wx 5 w1.heap.size (part m v i) ∧ Below w1.heap.size w1 wx) (fun s24 _ => m - (intOf s24).toNat)
    case atStart => exact ⟨0, by omega, rfl, H0.out.1, H0.out.2⟩
    case round =>
      obtain ⟨i, hi, rfl, hr, hbl⟩ := hrel
      by_cases hlt : i < m
      · have q1 : (i : Int) < (m : Int) := by omega
        have q2 : (0 : Int) ≤ (m : Int) - (i : Int) := by omega
        have q3 : (m : Int) - (i : Int) < 1 + (m : Int) := by omega
        have q4 : ((m : Int) - (i : Int)).toNat = m - i := by omega
        have q5 : (0 : Int) ≤ 8 * (i : Int) := by omega
        have q6 : 8 * (i : Int) ≤ 64 := by omega
        obtain ⟨z, hc⟩ := hr.has (m - i) (by rw [part_length _ _ _ hi]; omega)
        have hf := hr.frozen (m - i)
        have hsh := shr_is v i
        have HR := Lib.hid hr
        have HB := Lib.hid hbl
        have hset := part_set m v i hlt
        have HSET := Lib.hid hset
        clear hr hbl hset H0
        go_wp2_with fail
        have e : ((v : Int) / 256 ^ i % 256) = ((v / 256 ^ i % 256 : Nat) : Int) := by push_cast; rfl
        rw [e]
        refine ⟨⟨i + 1, by omega, by go_num, ?_, HB.out.setCell (Nat.le_refl _) _⟩, by simp [intOf]; omega⟩
        rw [← HSET.out]
        exact HR.out.set _ _
      · obtain rfl : i = m := by omega
        have q1 : ¬ (i : Int) < (i : Int) := by omega
        have HR := Lib.hid hr
        have HB := Lib.hid hbl
        clear hr hbl H0
        go_wp2_with fail
        go_ret
        have hm := HM.out
        have e : numL v = part i v i := by unfold numL part; rw [if_neg h, ← hm]; simp
        have hl := part_length i v i hi
        have hr := HR.out
        rw [e]
        refine ⟨w1.heap.size, i + 1, by rw [hl, Nat.add_comm 1 i]; rfl, ?_, HB.out⟩
        rw [hl]
        exact ⟨by simp [hl], .inr ⟨w1.heap.size, i + 1, _, rfl, Nat.le_refl _, hr, Nat.le_refl _, by simp only [maxLen]; omega, by simp [hl], by rw [Nat.mul_one]; exact List.take_of_length_le (by simp [hl])⟩⟩

set_option maxRecDepth 100000 in
set_option maxHeartbeats 2000000 in
theorem bytes_any (a : Option Addr) (n cap : Nat) (bs : List Int) (w : World) (hin : InBytes w a n cap bs) (hn : n ≤ 140737488351232) :
    Calls Tryd.prog 81 #[.slice a n cap] w (OwnPost w (bytL bs)) := by
  obtain ⟨i0, hi0, hz0, hz1, hz2⟩ := info_parts infoU8
  have hlen := hin.len
  have h9 := numL_le (v := n) (by omega)
  have hnum := Lib.hid (fun W => number_any n W (by omega))
  have HIN := Lib.hid hin
  clear hin
  go_enter Tryd.func81, Tryd.ntmps81
  go_wp2_with (first
    | (go_at_call 89
       (with_reducible refine (hnum.out _).mono ?_)
       rintro _ w1 ⟨g1, c1, rfl, hown1, hb1⟩
       have HO1 := Lib.hid hown1
       have HB1 := Lib.hid hb1
       clear hown1 hb1)
    | (at_builtin
       refine wpList_append_bytes' _ rfl (.tmp 6) (.tmp 7) 22 rfl w.heap.size 5 i0 _ 1 Tryd.underlying22 hi0 hz0 hz1 hz2 rfl g1 (numL n).length c1 ((numL n).map (Value.int .u8)) rfl HO1.out a n cap bs rfl (HIN.out.below HB1.out) (by simp only [maxLen]; omega) (by omega) HB1.out.size ?_
       intro g2 c2 w2 hown2 hg2
       have HO2 := Lib.hid hown2
       have HB2 : Hid (Below w.heap.size w w2) := Lib.hid (below_only HB1.out hg2 HB1.out.size (HO1.out.lt g1 rfl).1)
       clear hown2 hg2))
  go_ret
  have e : (bytL bs).length = (numL n).length + n := by unfold bytL; rw [List.length_append, hlen]
  refine ⟨g2, c2, by rw [e]; rfl, ?_, HB2.out⟩
  rw [e]
  have h := HO2.out
  rw [← List.map_append] at h
  unfold bytL
  rw [hlen]
  exact h
end Go.Proofs.YtioifkbkllnkgaaDoor

/- The contracts of the program's preimages. -/
namespace Go.Proofs.YtioifkbkllnkgaaDoor
open Go.RowKit
set_option linter.unusedVariables false

/-- New memory that holds the bytes zs, and no error. -/
def OwnPost2 (w : World) (zs : List Int) (e : Ending) (w' : World) : Prop :=
  ∃ g c, e = .returned (.tuple #[.slice (some ⟨g, 0, none⟩) zs.length c, .nilIface]) ∧ w'.ownsRow w.heap.size 5 1 (.slice (some ⟨g, 0, none⟩) zs.length c) zs.length (zs.map (Value.int .u8)) ∧ Below w.heap.size w w'
/-- No bytes, and the error ErrArg. -/
def ArgPost (w : World) (e : Ending) (w' : World) : Prop :=
  e = .returned (.tuple #[.slice none 0 0, .iface 42 (.int .i64 1)]) ∧ Below w.heap.size w w'

set_option maxRecDepth 100000 in
set_option maxHeartbeats 2000000 in
/-- isWidth is true from 1 to 32, and changes nothing. -/
theorem width_ok (x : Int) (w : World) (hx1 : 1 ≤ x) (hx2 : x ≤ 32) :
    Calls Tryd.prog 35 #[.int .i64 x] w (fun e w' => e = .returned (.bool true) ∧ w' = w) := by
  go_enter Tryd.func35, Tryd.ntmps35
  go_wp2
  go_ret
  exact ⟨by simp, rfl⟩
set_option maxRecDepth 100000 in
set_option maxHeartbeats 2000000 in
theorem value_any (a : Option Addr) (n cap : Nat) (bs : List Int) (w : World) (hin : InBytes w a n cap bs) (hn : n ≤ 140737488351232) :
    Calls Tryd.prog 64 #[.slice a n cap] w (OwnPost w (valL bs)) := by
  obtain ⟨i0, hi0, hz0, hz1, hz2⟩ := info_parts infoU8
  have hbl := hin.len
  have HIN := Lib.hid hin
  clear hin
  go_enter Tryd.func64, Tryd.ntmps64
  go_wp2_with (first
    | (at_builtin
       refine wpList_append_bytes' _ rfl (.tmp 3) (.tmp 4) 22 rfl w.heap.size 5 i0 _ 1 Tryd.underlying22 hi0 hz0 hz1 hz2 rfl w.heap.size 1 1 [.int .u8 0] rfl (own_new w 5 .u8 [0] w.heap.size (Nat.le_refl _) (by simp [maxLen])) a n cap bs rfl (HIN.out.below ((Below.refl _ _).alloc (Nat.le_refl _) _)) (by simp only [maxLen]; omega) (by omega) (by simp) ?_
       intro g1 c1 w1 hown1 hg1
       have HO1 := Lib.hid (own_app (xs := [0]) (ys := bs) hown1 rfl hbl.symm)
       have HB1 : Hid (Below w.heap.size w w1) := Lib.hid (below_only ((Below.refl _ _).alloc (Nat.le_refl _) _) hg1 (by simp) (Nat.le_refl _))
       clear hown1 hg1))
  go_ret
  have e : (valL bs).length = 1 + n := by simp [valL, hbl]; omega
  exact ⟨g1, c1, by rw [e]; rfl, HO1.out, HB1.out⟩
set_option maxRecDepth 100000 in
set_option maxHeartbeats 2000000 in
theorem none_any (w : World) : Calls Tryd.prog 42 #[] w (OwnPost w [3]) := by
  go_enter Tryd.func42, Tryd.ntmps42
  go_wp2
  go_ret
  exact ⟨w.heap.size, 1, rfl, own_new w 5 .u8 [3] w.heap.size (Nat.le_refl _) (by simp [maxLen]), (Below.refl _ _).alloc (Nat.le_refl _) _⟩
set_option maxRecDepth 100000 in
set_option maxHeartbeats 2000000 in
theorem pair_ok (x : Int) (a : Option Addr) (n cap : Nat) (bs : List Int) (a2 : Option Addr) (n2 cap2 : Nat) (ds : List Int) (w : World) (hin : InBytes w a n cap bs) (hn : n ≤ 140737488351232) (hin2 : InBytes w a2 n2 cap2 ds) (hx0 : 1 ≤ x) (hx1 : x ≤ 32) (hx : (n2 : Int) = x) :
    Calls Tryd.prog 65 #[.int .i64 x, .slice a n cap, .slice a2 n2 cap2] w (OwnPost2 w (pairL bs ds)) := by
  obtain ⟨i0, hi0, hz0, hz1, hz2⟩ := info_parts infoU8
  have hbl := hin.len
  have hbl2 := hin2.len
  have h8 := bytL_bytes hin.bytes (by omega)
  have h9 := numL_le (v := n) (by omega)
  have hlen : (bytL bs).length = (numL n).length + n := by unfold bytL; rw [List.length_append, hbl]
  have HIN := Lib.hid hin
  have HIN2 := Lib.hid hin2
  have H8 := Lib.hid h8
  obtain ⟨bl, hble⟩ : ∃ bl, bl = (bytL bs).length := ⟨_, rfl⟩
  have HBL := Lib.hid hble
  have hbl3 : bl ≤ n + 9 := by omega
  clear hin hin2 h8 hble hlen h9
  go_enter Tryd.func65, Tryd.ntmps65
  go_wp2_with (first
    | (go_at_call 35
       (with_reducible refine (width_ok x _ (by omega) (by omega)).mono ?_)
       rintro _ w9 ⟨rfl, hw9⟩
       rw [hw9]
       clear hw9)
    | (go_at_call 81
       (with_reducible refine (bytes_any a n cap bs _ ?_ hn).mono ?_)
       · exact HIN.out.below ((Below.refl _ _).alloc (Nat.le_refl _) _)
       rintro _ w1 ⟨g1, c1, rfl, ho1, hb1⟩
       rw [← HBL.out] at ho1 ⊢
       have HI1 := Lib.hid (InBytes.of_own ho1 H8.out)
       have HO0 := Lib.hid (own_below (own_new w 5 .u8 [1] w.heap.size (Nat.le_refl _) (by simp [maxLen])) hb1 (by simp))
       have HB1 : Hid (Below w.heap.size w w1) := Lib.hid ((((Below.refl w.heap.size w).alloc (Nat.le_refl _) _)).trans (hb1.mono (by simp)))
       clear ho1 hb1)
    | (at_builtin
       refine wpList_append_bytes' _ rfl (.tmp 19) (.tmp 21) 22 rfl w.heap.size 5 i0 _ 1 Tryd.underlying22 hi0 hz0 hz1 hz2 rfl w.heap.size 1 1 [.int .u8 1] rfl HO0.out (some ⟨g1, 0, none⟩) bl c1 (bytL bs) rfl HI1.out (by simp only [maxLen]; omega) (by omega) HB1.out.size ?_
       intro g2 c2 w2 hown2 hg2
       have hown2' := own_app (xs := [1]) (ys := bytL bs) hown2 rfl HBL.out
       have e2 : ([1] ++ bytL bs).length = 1 + bl := by rw [List.length_append, ← HBL.out]; rfl
       rw [e2] at hown2'
       have HO2 := Lib.hid hown2'
       have HB2 : Hid (Below w.heap.size w w2) := Lib.hid (below_only HB1.out hg2 HB1.out.size (Nat.le_refl _))
       clear hown2 hg2 hown2' e2)
    | (at_builtin
       refine wpList_append_bytes' _ rfl (.tmp 23) (.tmp 24) 22 rfl w.heap.size 5 i0 _ 1 Tryd.underlying22 hi0 hz0 hz1 hz2 rfl g2 (1 + bl) c2 (([1] ++ bytL bs).map (Value.int .u8)) rfl HO2.out a2 n2 cap2 ds rfl (HIN2.out.below HB2.out) (by simp only [maxLen]; omega) (by omega) HB2.out.size ?_
       intro g3 c3 w3 hown3 hg3
       have HO3 := Lib.hid (own_app (xs := [1] ++ bytL bs) (ys := ds) hown3 (by rw [List.length_append, ← HBL.out]; rfl) hbl2.symm)
       have HB3 : Hid (Below w.heap.size w w3) := Lib.hid (below_only HB2.out hg3 HB2.out.size (HO2.out.lt g2 rfl).1)
       clear hown3 hg3))
  go_ret2
  have e : pairL bs ds = [1] ++ bytL bs ++ ds := by unfold pairL; simp
  have e2 : (pairL bs ds).length = 1 + bl + n2 := by rw [e, List.length_append, List.length_append, ← HBL.out, hbl2]; rfl
  refine ⟨g3, c3, by rw [e2]; rfl, ?_, HB3.out⟩
  rw [e]
  exact HO3.out
set_option maxRecDepth 100000 in
set_option maxHeartbeats 2000000 in
theorem node_ok (x : Int) (a : Option Addr) (n cap : Nat) (ls : List Int) (a2 : Option Addr) (n2 cap2 : Nat) (ps : List Int) (a3 : Option Addr) (n3 cap3 : Nat) (rs : List Int) (w : World) (hin : InBytes w a n cap ls) (hin2 : InBytes w a2 n2 cap2 ps) (hin3 : InBytes w a3 n3 cap3 rs) (hx0 : 1 ≤ x) (hx1 : x ≤ 32) (h1 : (n : Int) = x) (h2 : (n2 : Int) = x) (h3 : (n3 : Int) = x) :
    Calls Tryd.prog 45 #[.int .i64 x, .slice a n cap, .slice a2 n2 cap2, .slice a3 n3 cap3] w (OwnPost2 w (nodeL ls ps rs)) := by
  obtain ⟨i0, hi0, hz0, hz1, hz2⟩ := info_parts infoU8
  have hl1 := hin.len
  have hl2 := hin2.len
  have hl3 := hin3.len
  have HIN := Lib.hid hin
  have HIN2 := Lib.hid hin2
  have HIN3 := Lib.hid hin3
  clear hin hin2 hin3
  go_enter Tryd.func45, Tryd.ntmps45
  go_wp2_with (first
    | (go_at_call 35
       (with_reducible refine (width_ok x _ (by omega) (by omega)).mono ?_)
       rintro _ w9 ⟨rfl, hw9⟩
       rw [hw9]
       clear hw9)
    | (at_builtin
       refine wpList_append_bytes' _ rfl (.tmp 33) (.tmp 34) 22 rfl w.heap.size 5 i0 _ 1 Tryd.underlying22 hi0 hz0 hz1 hz2 rfl w.heap.size 1 1 [.int .u8 2] rfl (own_new w 5 .u8 [2] w.heap.size (Nat.le_refl _) (by simp [maxLen])) a n cap ls rfl (HIN.out.below ((Below.refl _ _).alloc (Nat.le_refl _) _)) (by simp only [maxLen]; omega) (by omega) (by simp) ?_
       intro g1 c1 w1 hown1 hg1
       have hown1' := own_app (xs := [2]) (ys := ls) hown1 rfl hl1.symm
       have e1 : ([2] ++ ls).length = 1 + n := by rw [List.length_append, hl1]; rfl
       rw [e1] at hown1'
       have HO1 := Lib.hid hown1'
       have HB1 : Hid (Below w.heap.size w w1) := Lib.hid (below_only ((Below.refl _ _).alloc (Nat.le_refl _) _) hg1 (by simp) (Nat.le_refl _))
       clear hown1 hg1 hown1' e1)
    | (at_builtin
       refine wpList_append_bytes' _ rfl (.tmp 36) (.tmp 37) 22 rfl w.heap.size 5 i0 _ 1 Tryd.underlying22 hi0 hz0 hz1 hz2 rfl g1 (1 + n) c1 (([2] ++ ls).map (Value.int .u8)) rfl HO1.out a2 n2 cap2 ps rfl (HIN2.out.below HB1.out) (by simp only [maxLen]; omega) (by omega) HB1.out.size ?_
       intro g2 c2 w2 hown2 hg2
       have hown2' := own_app (xs := [2] ++ ls) (ys := ps) hown2 (by rw [List.length_append, hl1]; rfl) hl2.symm
       have e2 : ([2] ++ ls ++ ps).length = 1 + n + n2 := by rw [List.length_append, List.length_append, hl1, hl2]; rfl
       rw [e2] at hown2'
       have HO2 := Lib.hid hown2'
       have HB2 : Hid (Below w.heap.size w w2) := Lib.hid (below_only HB1.out hg2 HB1.out.size (HO1.out.lt g1 rfl).1)
       clear hown2 hg2 hown2' e2)
    | (at_builtin
       refine wpList_append_bytes' _ rfl (.tmp 39) (.tmp 40) 22 rfl w.heap.size 5 i0 _ 1 Tryd.underlying22 hi0 hz0 hz1 hz2 rfl g2 (1 + n + n2) c2 (([2] ++ ls ++ ps).map (Value.int .u8)) rfl HO2.out a3 n3 cap3 rs rfl (HIN3.out.below HB2.out) (by simp only [maxLen]; omega) (by omega) HB2.out.size ?_
       intro g3 c3 w3 hown3 hg3
       have HO3 := Lib.hid (own_app (xs := [2] ++ ls ++ ps) (ys := rs) hown3 (by rw [List.length_append, List.length_append, hl1, hl2]; rfl) hl3.symm)
       have HB3 : Hid (Below w.heap.size w w3) := Lib.hid (below_only HB2.out hg3 HB2.out.size (HO2.out.lt g2 rfl).1)
       clear hown3 hg3))
  go_ret2
  have e : nodeL ls ps rs = [2] ++ ls ++ ps ++ rs := by unfold nodeL; simp
  have e2 : (nodeL ls ps rs).length = 1 + n + n2 + n3 := by rw [e, List.length_append, List.length_append, List.length_append, hl1, hl2, hl3]; rfl
  refine ⟨g3, c3, by rw [e2]; rfl, ?_, HB3.out⟩
  rw [e]
  exact HO3.out
end Go.Proofs.YtioifkbkllnkgaaDoor

/- The contract of the program's digest. -/
namespace Go.Proofs.YtioifkbkllnkgaaDoor
open Go.RowKit
set_option linter.unusedVariables false

/-- A slice of new memory, the first k bytes of a sum, and no error. -/
def OfPost2 (w : World) (k : Nat) (bs : List Int) (e : Ending) (w' : World) : Prop :=
  ∃ g, w.heap.size ≤ g ∧ e = .returned (.tuple #[.slice (some ⟨g, 0, none⟩) k k, .nilIface]) ∧ Row .u8 w' 5 g (sumL bs) ∧ Below w.heap.size w w'

set_option maxRecDepth 100000 in
set_option maxHeartbeats 2000000 in
theorem of_ok (k : Nat) (a : Option Addr) (n cap : Nat) (bs : List Int) (w : World) (hin : InBytes w a n cap bs) (hn : (n : Int) ≤ 1125899906842624) (hT : TabLies w) (hk1 : 1 ≤ k) (hk2 : k ≤ 32) :
    Calls Tryd.prog 16 #[.int .i64 k, .slice a n cap] w (OfPost2 w k bs) := by
  have HS := Lib.hid (Sum_any a n cap bs w hin hn hT)
  have hk3 : (k : Int) ≤ 32 := by omega
  have hk4 : (0 : Int) ≤ (k : Int) := by omega
  clear hin hT
  go_enter Tryd.func16, Tryd.ntmps16
  go_wp2_with (first
    | (go_at_call 35
       (with_reducible refine (width_ok _ _ (by omega) (by omega)).mono ?_)
       rintro _ w9 ⟨rfl, hw9⟩
       rw [hw9]
       clear hw9)
    | (go_at_call 36
       (with_reducible refine HS.out.mono ?_)
       rintro _ w1 ⟨g1, hg1, rfl, hr1, hb1⟩
       have H1 := Lib.hid (And.intro hg1 (And.intro hr1 hb1))
       clear hg1 hr1 hb1))
  go_ret2
  obtain ⟨hg1, hr1, hb1⟩ := H1.out
  exact ⟨g1, hg1, rfl, hr1, hb1⟩

/-- The first k bytes of a sum, as an argument of capacity 32. -/
theorem of_in32 {w : World} {g k : Nat} {bs : List Int} {t : TypeId} (h : Row .u8 w t g (sumL bs)) (hk : k ≤ 32) : InBytes w (some ⟨g, 0, none⟩) k 32 ((sumL bs).take k) := by
  have hsl32 := sumL_length bs
  have h1 := InBytes.of_row h (sumL_bytes bs) (by rw [hsl32]; omega)
  rw [hsl32] at h1
  exact h1.upto k hk
/-- The first k bytes of a sum, as an argument of capacity k. -/
theorem of_in {w : World} {g k : Nat} {bs : List Int} {t : TypeId} (h : Row .u8 w t g (sumL bs)) (hk : k ≤ 32) : InBytes w (some ⟨g, 0, none⟩) k k ((sumL bs).take k) :=
  have h1 := of_in32 h hk
  ⟨h1.len, h1.bytes, Nat.le_refl _, by simp only [maxLen]; omega, (fun h => by cases h), h1.place⟩
end Go.Proofs.YtioifkbkllnkgaaDoor

/- What the rows' condition on the two listed tables gives the walks; a start that meets it. -/
namespace Go.Proofs.YtioifkbkllnkgaaDoor
open Go.ChangeShapes Go.WideShapes Go.ChangeAt Go.RowKit
set_option linter.unusedVariables false

theorem own : ownKnob Tryd.prog.godebug = none := by kernel_rfl
theorem laidOut : laidOutB Tryd.prog = true := by kernel_rfl
theorem gK : Tryd.prog.globalNamed "heartwood/sha.roundConstants" = some 2 := by kernel_rfl
theorem gH : Tryd.prog.globalNamed "heartwood/sha.initialState" = some 0 := by kernel_rfl
theorem tK : (Tryd.prog.globals[2]?).map (·.type) = some 108 := by kernel_rfl
theorem tH : (Tryd.prog.globals[0]?).map (·.type) = some 34 := by kernel_rfl
theorem cK : Tryd.prog.cellsOf 108 = 64 := by kernel_rfl
theorem cH : Tryd.prog.cellsOf 34 = 8 := by kernel_rfl
theorem cU : Tryd.prog.cellsOf 33 = 1 := by kernel_rfl

abbrev tabs : List (String × DataW Unit) := [("heartwood/sha.roundConstants", Rows.laid_heartwood_sha_roundConstants), ("heartwood/sha.initialState", Rows.laid_heartwood_sha_initialState)]

theorem of_laid {W : World} (h : laidMetH Tryd.prog tabs W) : TabLies W := by
  rw [MakeChecks.laidMetH_plain _ _ _ (by kernel_rfl)] at h
  obtain ⟨ps, ⟨g0, t0, cs0, f0, p0, q0, hg0, ht0, hv0, hd0, ⟨g1, t1, cs1, f1, p1, q1, hg1, ht1, hv1, hd1, _, _⟩, _⟩, _, _⟩ := h
  obtain rfl := Option.some.inj (gK.symm.trans hg0)
  obtain rfl := Option.some.inj (gH.symm.trans hg1)
  obtain rfl := Option.some.inj (tK.symm.trans ht0)
  obtain rfl := Option.some.inj (tH.symm.trans ht1)
  have e0 : cs0.toList = kTab.map (Value.int .u32) := ints_of_trod (zs := kTab) Tryd.underlying108 Tryd.underlying33 cU cK rfl hd0
  have e1 : cs1.toList = hTab.map (Value.int .u32) := ints_of_trod (zs := hTab) Tryd.underlying34 Tryd.underlying33 cU cH rfl hd1
  constructor
  · simp only [World.var?, gK, Option.bind_some] at hv0
    split at hv0
    · rename_i cs t fr hh
      injection hv0 with hv0
      subst hv0
      refine ⟨t, fr, ?_⟩
      rw [hh, ← e0]
    · cases hv0
  · simp only [World.var?, gH, Option.bind_some] at hv1
    split at hv1
    · rename_i cs t fr hh
      injection hv1 with hv1
      subst hv1
      refine ⟨t, fr, ?_⟩
      rw [hh, ← e1]
    · cases hv1

/-- The door's own heap meets the condition. -/
theorem door_met (os : Os) (args : Array Value) : laidMetH Tryd.prog tabs ((World.doorLaid Tryd.prog 400 os).forCall (fun _ _ => 0) ⟨#[], args, []⟩).memory :=
  laidMetH_of_parts3 (fuel := 8) (laidMet_of_run' 8 (by kernel_rfl) (by kernel_rfl)) (by kernel_rfl) (by kernel_rfl)
end Go.Proofs.YtioifkbkllnkgaaDoor

/- The contract of the program's image of what has a preimage. -/
namespace Go.Proofs.YtioifkbkllnkgaaDoor
open Go.RowKit
set_option linter.unusedVariables false

theorem infoIm : (Tryd.prog.info? 66).map (·.size) = some 3 := by kernel_rfl
theorem infoSlt : (Tryd.prog.info? 22).map (fun i => (i.zero, i.size, i.bytes)) = some (some (.slice none 0 0), 1, 24) := by kernel_rfl
/-- Results: an image in a box, and what a slot holds. -/
theorem result_im {fn : Func} {p q : Tmp} {ty : TypeId} (hr : fn.results = #[.cell p ty, .tmp q]) (tmps : Array Value) {w : World} {g : Nat} {t : TypeId} {h : IMH} {fs : Array Field} (hx : RBox recIm w t g h)
    (hp : tmps.getD p undef = .pointer (some ⟨g, 0, none⟩)) (hu : Tryd.prog.underlying ty = some (.struct fs)) (hi : (Tryd.prog.info? ty).map (·.size) = some 3) :
    (results fn tmps).run Tryd.prog w = .ok (.tuple #[h.v, tmps.getD q undef]) w := results_cell_tmp hr tmps w g t _ _ _ hp hx hu rfl hi
/-- An image in new memory, as it stays. -/
def ImgPost (k B lo : Nat) (w : World) (sum : List Int) (pre : List (List Int)) (kids : List PT) (e : Ending) (w' : World) : Prop := ∃ h : IMH, e = .returned (.tuple #[h.v, .nilIface]) ∧ FrA k B lo w'.heap.size w' h sum pre kids ∧ Below w.heap.size w w'
/-- A row of one's own is fresh. -/
theorem fresh_own {lo base g n c : Nat} {w : World} {t : TypeId} {zs : List Int} (h : w.ownsRow base t 1 (.slice (some ⟨g, 0, none⟩) n c) n (zs.map (Value.int .u8))) (hb : Bytes8 zs) (hl : lo ≤ base) : FreshB lo w.heap.size w (some ⟨g, 0, none⟩) n c zs := by
  refine FreshB.of (InBytes.of_own h hb) (fun y e => ?_)
  injection e with e
  subst e
  rcases h.2 with ⟨q, _⟩ | ⟨g', c', cur, q, hg, hh, _⟩
  · cases q
  · injection q with q
    injection q with q
    injection q with q
    subst q
    exact ⟨Nat.le_trans hl hg, (Array.getElem?_eq_some_iff.1 hh).1⟩

set_option maxRecDepth 100000 in
set_option maxHeartbeats 4000000 in
theorem imageWith_any (k B lo : Nat) (hk1 : 1 ≤ k) (hk2 : k ≤ 32) (w : World) (a : Option Addr) (n c : Nat) (bs : List Int) (fz : FreshB lo w.heap.size w a n c bs) (hn : n ≤ 3000) (hT : TabLies w)
    (pa : Option Addr) (pn pc : Nat) (pre : List (List Int)) (fp : Fr B lo w.heap.size w (PreX lo w.heap.size pa pn pc pre)) (hpn : pn ≤ 10) (ka : Option Addr) (kn kc : Nat) (kids : List PT) (fk : Fr B lo w.heap.size w (KidX k lo w.heap.size ka kn kc kids)) (hlo : lo ≤ w.heap.size) :
    Calls Tryd.prog 52 #[.int .i64 k, .slice a n c, .slice pa pn pc, .slice ka kn kc] w (ImgPost k B lo w ((sumL bs).take k) (bs :: pre) kids) := by
  obtain ⟨i0, hi0, hz0, hz1, hz2⟩ := info_parts infoSlt
  obtain ⟨D, hp⟩ := fp.self (Nat.le_refl _)
  have hin := fz w (Nat.le_refl _) (fun _ _ _ => rfl)
  have HP := Lib.hid hp
  have HIN := Lib.hid hin
  have HFZ := Lib.hid fz
  have HFK := Lib.hid fk
  have HTT := Lib.hid hT
  have hb0 : Below w.heap.size w (w.alloc (.cells #[.slice none 0 0, .slice none 0 0, .slice none 0 0] 66)) := (Below.refl _ _).alloc (Nat.le_refl _) _
  have HB0 := Lib.hid hb0
  have HX0 : Hid (RBox recIm (w.alloc (.cells #[.slice none 0 0, .slice none 0 0, .slice none 0 0] 66)) 66 w.heap.size imZ) := Lib.hid (heap_alloc_new w _)
  have HS0 : Hid ((w.alloc (.cells #[.slice none 0 0, .slice none 0 0, .slice none 0 0] 66)).heap.size = w.heap.size + 1) := Lib.hid (by simp)
  clear hp hin fz fk fp hT hb0
  go_enter Tryd.func52, Tryd.ntmps52
  go_upto_region 1 with fail
  generalize (w.alloc (.cells #[.slice none 0 0, .slice none 0 0, .slice none 0 0] 66)) = w0 at *
  go_wp2_with (first
    | (go_at_call 16
       (with_reducible refine (of_ok k a n c bs _ ?_ (by omega) ?_ hk1 hk2).mono ?_)
       · exact HIN.out.below HB0.out
       · exact HTT.out.below HB0.out (Nat.le_refl _)
       rintro _ w2 ⟨g2, hg2, rfl, hr2, hb2⟩
       have HB2 : Hid (Below w.heap.size w w2) := Lib.hid (HB0.out.trans (hb2.mono HB0.out.size))
       have HX2 := Lib.hid (HX0.out.below hb2 HX0.out.lt)
       have HG2 : Hid (w.heap.size + 1 ≤ g2) := Lib.hid (by rw [← HS0.out]; exact hg2)
       have HI2 := Lib.hid (of_in hr2 hk2)
       have HBA : Hid (Below w2.heap.size w2 (w2.alloc (.cells #[.slice a n c] 22))) := Lib.hid ((Below.refl _ _).alloc (Nat.le_refl _) _)
       clear hg2 hr2 hb2)
    | (at_builtin
       refine wpList_append_inrec (c := recSl) _ rfl (.tmp 24) (.tmp 25) 63 rfl w2.heap.size 22 i0 _ 24 Tryd.underlying63 hi0 hz0 hz1 hz2 rfl (.slice (some ⟨w2.heap.size, 0, none⟩) 1 1) [⟨a, n, c⟩] rfl (ownR_new recSl w2 22 w2.heap.size [⟨a, n, c⟩] (Nat.le_refl _) (by simp [maxLen])) pa pn pc D rfl ((HP.out.row.below HB2.out).below HBA.out) ?_ (by omega) HBA.out.size ?_
       · show (1 + pn) * 24 ≤ _
         omega
       intro v4 w4 hown4 hg4
       obtain ⟨a4, c4, hv4⟩ := hown4.sl
       generalize hm4 : ([(⟨a, n, c⟩ : SLH)] ++ (List.range pn).map D).length = m4 at hv4
       subst hv4
       have HO4 := Lib.hid hown4
       have hl2 := HX2.out.lt
       have HX4 := Lib.hid ((HX2.out.below HBA.out hl2).grown hg4 (fun q => by injection q with q; have q' : w.heap.size = w2.heap.size := q; omega))
       have HB4 : Hid (Below w.heap.size w w4) := Lib.hid (below_only (HB2.out.trans (HBA.out.mono HB2.out.size)) hg4 (Nat.le_trans HB2.out.size HBA.out.size) HB2.out.size)
       have HS4 : Hid (w2.heap.size ≤ w4.heap.size) := Lib.hid (Nat.le_trans HBA.out.size hg4.size)
       have HI4 := Lib.hid ((HI2.out.below HBA.out).grown hg4 (fun ad e q => by
         injection e with e
         subst e
         obtain ⟨g, off, e2, hlt, -⟩ := HI2.out.place (by omega)
         injection e2 with e2
         injection e2 with e2
         injection q with q
         have q' : g2 = w2.heap.size := q
         omega))
       have HG4 : Hid (g2 < w4.heap.size) := Lib.hid (by
         obtain ⟨g, off, e2, hlt, -⟩ := HI2.out.place (by omega)
         injection e2 with e2
         injection e2 with e2
         have := HS4.out
         omega)
       clear hown4 hg4 hl2 hm4)
    | (refine wpList_store_rec rfl 66 (.tmp 8) (.tmp 28) rfl recIm w.heap.size imZ ⟨some ⟨g2, 0, none⟩, k, k, a4, m4, c4, ka, kn, kc⟩ rfl rfl 66 HX4.out infoIm ?_
       intro w9 hx9 hg9
       have HX9 := Lib.hid hx9
       have HB9 : Hid (Below w.heap.size w w9) := Lib.hid (HB4.out.grown hg9 HB4.out.size (fun j hj => by injection hj; omega))
       have HI9 := Lib.hid (HI4.out.grown hg9 (fun ad e q => by
         injection e with e
         subst e
         injection q with q
         have q' : g2 = w.heap.size := q
         have := HG2.out
         omega))
       have HO9 := Lib.hid (HO4.out.grown hg9 (by
         right
         intro q
         have q1 := (HO4.out.base_le q).1
         have q2 := HX2.out.lt
         omega))
       have HS9 := Lib.hid hg9.size
       clear hx9 hg9))
  exact bodyPost_ret (result_im Tryd.results52 _ HX9.out rfl Tryd.underlying66 infoIm) rfl ⟨_, rfl, ⟨(FreshB.of HI9.out (fun y e => by
    injection e with e
    subst e
    have q1 := HG2.out
    have q2 := HG4.out
    have q3 := HS9.out
    exact ⟨(show lo ≤ g2 by omega), (show g2 < w9.heap.size by omega)⟩)).fr, PreX.cons HO9.out (Nat.le_trans hlo HB2.out.size) (fun g e => (HO9.out.base_le (g := g) (by have e' : a4 = some ⟨g, 0, none⟩ := e; rw [e']; rfl)).2) ((HFZ.out.below HB9.out (Nat.le_refl _)).wide (Nat.le_refl _) HB9.out.size) HP.out.len (fun i h => ((HP.out.all i h).below HB9.out (Nat.le_refl _)).wide (Nat.le_refl _) HB9.out.size), (((HFK.out.below HB9.out (Nat.le_refl _)).wide (Nat.le_refl _) (Nat.le_refl _) HB9.out.size).map (KidX.wide (Nat.le_refl _) HB9.out.size))⟩, HB9.out⟩
end Go.Proofs.YtioifkbkllnkgaaDoor

/- The contracts of the program's images of a node's value and of its pair. -/
namespace Go.Proofs.YtioifkbkllnkgaaDoor
open Go.RowKit
set_option linter.unusedVariables false

/-- The boxes of the tree and of the result. -/
structure ZM (w W : World) (h : TH) : Prop where
  box : Box W 25 w.heap.size h
  res : RBox recIm W 66 (w.heap.size + 1) imZ
  b : Below w.heap.size w W
section
variable {w W W' : World} {h : TH}
theorem ZM.below (d : ZM w W h) (hb : Below W.heap.size W W') : ZM w W' h := ⟨d.box.below hb d.box.lt, d.res.below hb d.res.lt, d.b.trans (hb.mono d.b.size)⟩
theorem ZM.sz (d : ZM w W h) : w.heap.size + 2 ≤ W.heap.size := d.res.lt
theorem ZM.wrote (d : ZM w W h) (hg : W.grownBy W' (some (w.heap.size + 1))) : Below w.heap.size w W' := d.b.grown hg d.b.size (fun j hj => by injection hj; omega)
theorem ZM.enter (w : World) (h : TH) : ZM w ((w.alloc (.cells #[.int .i64 h.k, .slice h.ka h.kn h.kc, .slice h.va h.vn h.vc, .slice h.da h.dn h.dc, .slice h.ta h.tn h.tc] 25)).alloc (.cells #[.slice none 0 0, .slice none 0 0, .slice none 0 0] 66)) h := by
  have q1 : Below w.heap.size w (w.alloc (.cells #[.int .i64 h.k, .slice h.ka h.kn h.kc, .slice h.va h.vn h.vc, .slice h.da h.dn h.dc, .slice h.ta h.tn h.tc] 25)) := (Below.refl _ _).alloc (Nat.le_refl _) _
  have s1 : (w.alloc (.cells #[.int .i64 h.k, .slice h.ka h.kn h.kc, .slice h.va h.vn h.vc, .slice h.da h.dn h.dc, .slice h.ta h.tn h.tc] 25)).heap.size = w.heap.size + 1 := by simp
  have x1 := Box.new w 25 h
  have b1 : Below (w.alloc (.cells #[.int .i64 h.k, .slice h.ka h.kn h.kc, .slice h.va h.vn h.vc, .slice h.da h.dn h.dc, .slice h.ta h.tn h.tc] 25)).heap.size (w.alloc (.cells #[.int .i64 h.k, .slice h.ka h.kn h.kc, .slice h.va h.vn h.vc, .slice h.da h.dn h.dc, .slice h.ta h.tn h.tc] 25)) ((w.alloc (.cells #[.int .i64 h.k, .slice h.ka h.kn h.kc, .slice h.va h.vn h.vc, .slice h.da h.dn h.dc, .slice h.ta h.tn h.tc] 25)).alloc (.cells #[.slice none 0 0, .slice none 0 0, .slice none 0 0] 66)) := (Below.refl _ _).alloc (Nat.le_refl _) _
  have x2 : RBox recIm ((w.alloc (.cells #[.int .i64 h.k, .slice h.ka h.kn h.kc, .slice h.va h.vn h.vc, .slice h.da h.dn h.dc, .slice h.ta h.tn h.tc] 25)).alloc (.cells #[.slice none 0 0, .slice none 0 0, .slice none 0 0] 66)) 66 (w.alloc (.cells #[.int .i64 h.k, .slice h.ka h.kn h.kc, .slice h.va h.vn h.vc, .slice h.da h.dn h.dc, .slice h.ta h.tn h.tc] 25)).heap.size imZ := heap_alloc_new _ _
  rw [s1] at x2
  exact ⟨x1.below b1 x1.lt, x2, q1.trans (b1.mono (by rw [s1]; omega))⟩
end
/-- The preimage of a value that is told. -/
def PT.valsP : PT → List (List Int)
  | .shown _ _ v _ => [valL v]
  | _ => []
theorem PT.pre_vals {k : Nat} {p : PT} (h : p.isNode = true) : p.preP k = p.ownP k :: p.pairP k :: p.valsP := by
  cases p <;> first | rfl | cases h
theorem PT.vals_len (p : PT) : p.valsP.length ≤ 1 := by
  cases p <;> first | exact Nat.le_refl 1 | exact Nat.zero_le 1

set_option maxRecDepth 100000 in
set_option maxHeartbeats 4000000 in
theorem valueImage_any (k : Nat) (hk1 : 1 ≤ k) (hk2 : k ≤ 32) (wb : World) (P : PT) (hn : P.isNode = true) (h : TH) (w : World) (ht : InTree wb h P.tr) (hb : Below wb.heap.size wb w) (hT : TabLies wb) (hvn : P.tr.val.length ≤ 2000) :
    Calls Tryd.prog 72 #[.int .i64 k, h.v] w (ImgPost k wb.heap.size w.heap.size w (valT k P.tr) P.valsP []) := by
  unfold TH.v
  obtain ⟨H, hp⟩ := ht.parts
  have HP := Lib.hid hp
  have HBW := Lib.hid hb
  have HTT := Lib.hid hT
  have hbs := hb.size
  have HKK := Lib.hid hp.hk
  have hvl := hp.val.len
  have HD := Lib.hid (ZM.enter w h)
  clear hp ht hb hT
  go_enter Tryd.func72, Tryd.ntmps72
  go_upto_region 1 with fail
  generalize ((w.alloc (.cells #[.int .i64 h.k, .slice h.ka h.kn h.kc, .slice h.va h.vn h.vc, .slice h.da h.dn h.dc, .slice h.ta h.tn h.tc] 25)).alloc (.cells #[.slice none 0 0, .slice none 0 0, .slice none 0 0] 66)) = w0 at *
  have HB0 : Hid (Below wb.heap.size wb w0) := Lib.hid (HBW.out.trans (HD.out.b.mono hbs))
  obtain ⟨x0, x1, x2, x3, x4⟩ := HD.out.box.cells
  cases P with
  | nil => cases hn
  | cut d => cases hn
  | shown l key v r =>
    have e0 : (h.k == 2) = false := by rw [HKK.out]; rfl
    go_wp2_with (first
      | (go_at_call 64
         (with_reducible refine (value_any h.va h.vn h.vc v _ ?_ (by omega)).mono ?_)
         · exact HP.out.val.below HB0.out
         rintro _ w1 ⟨g1, c1, rfl, ho1, hb1⟩
         have HD1 := Lib.hid (HD.out.below hb1)
         have HT1 : Hid (TabLies w1) := Lib.hid (HTT.out.below (HB0.out.trans (hb1.mono HB0.out.size)) (Nat.le_refl _))
         have HF1 := Lib.hid (fresh_own (lo := w.heap.size + 2) ho1 (valL_bytes HP.out.val.bytes) HD.out.sz)
         clear ho1 hb1 x0 x1 x2 x3 x4)
      | (go_at_call 52
         (with_reducible refine (imageWith_any k wb.heap.size (w.heap.size + 2) hk1 hk2 _ (some ⟨g1, 0, none⟩) (valL v).length c1 (valL v) HF1.out ?_ HT1.out none 0 0 [] (Fr.preNil _ _ _ _ _ _) (by omega) none 0 0 [] (Fr.kidNil _ _ _ _ _ _ _) HD1.out.sz).mono ?_)
         · have q : v.length ≤ 2000 := hvn
           rw [valL_len]; omega
         rintro _ w2 ⟨h2, rfl, f2, hb2⟩
         unfold IMH.v
         have HD2 := Lib.hid (HD1.out.below hb2)
         have HF2 := Lib.hid f2
         clear f2 hb2)
      | (refine wpList_store_rec rfl 66 (.tmp 4) (.tmp 17) rfl recIm (w.heap.size + 1) imZ h2 rfl rfl 66 HD2.out.res infoIm ?_
         intro w9 hx9 hg9
         have HX9 := Lib.hid hx9
         have HB9 := Lib.hid (HD2.out.wrote hg9)
         have HF9 := Lib.hid ((HF2.out.grown hg9 (Nat.le_refl _) (.inl ⟨by omega, by omega⟩)).wide (Nat.le_refl _) (Nat.le_add_right _ _) hg9.size)
         clear hx9 hg9))
    exact bodyPost_ret (result_im Tryd.results72 _ HX9.out rfl Tryd.underlying66 infoIm) rfl ⟨_, rfl, HF9.out, HB9.out⟩
  | dark l key d r =>
    have e0 : (h.k == 2) = true := by rw [HKK.out]; rfl
    go_wp2_with (first
      | (refine wpList_store_rec rfl 66 (.tmp 4) (.tmp 11) rfl recIm (w.heap.size + 1) imZ ⟨h.da, h.dn, h.dc, none, 0, 0, none, 0, 0⟩ rfl rfl 66 HD.out.res infoIm ?_
         intro w9 hx9 hg9
         have HX9 := Lib.hid hx9
         have HB9 := Lib.hid (HD.out.wrote hg9)
         clear hx9 hg9))
    exact bodyPost_ret (result_im Tryd.results72 _ HX9.out rfl Tryd.underlying66 infoIm) rfl ⟨_, rfl, ⟨HP.out.dig.frB (HBW.out.trans (HB9.out.mono hbs)) (Nat.le_trans hbs HB9.out.size), Fr.preNil _ _ _ _ _ _, Fr.kidNil _ _ _ _ _ _ _⟩, HB9.out⟩
end Go.Proofs.YtioifkbkllnkgaaDoor

/- What the program's Find tells, as its contract says it. -/
namespace Go.Proofs.YtioifkbkllnkgaaDoor
open Go.RowKit
set_option linter.unusedVariables false

/-- The error's number that a digest has of a tree. -/
def toldD (x : Int) (p : Tr) : Nat := if 1 ≤ x ∧ x ≤ 32 then (if checkT p ≠ 0 then checkT p else if digT x.toNat p = none then 3 else 0) else 1
theorem toldD_le (x : Int) (p : Tr) : toldD x p ≤ 13 := by
  unfold toldD
  split
  · split
    · unfold checkT
      split
      · omega
      · split <;> omega
    · split <;> omega
  · omega
theorem toldD_zero {x : Int} {p : Tr} (h : toldD x p = 0) : ∃ (k : Nat) (zs : List Int), x = k ∧ 1 ≤ k ∧ k ≤ 32 ∧ checkT p = 0 ∧ digT k p = some zs := by
  unfold toldD at h
  split at h
  · rename_i hx
    split at h
    · rename_i hc
      exact absurd h hc
    · rename_i hc
      split at h
      · cases h
      · rename_i hd
        cases hz : digT x.toNat p with
        | none => exact absurd hz hd
        | some zs => exact ⟨x.toNat, zs, by omega, by omega, by omega, by simpa using hc, hz⟩
  · cases h
theorem toldD_some {k : Nat} {p : Tr} (h1 : 1 ≤ k) (h2 : k ≤ 32) (hc : checkT p = 0) {zs : List Int} (hz : digT k p = some zs) : toldD k p = 0 := by
  unfold toldD
  rw [if_pos ⟨by omega, by omega⟩, if_neg (by rw [hc]; simp)]
  show (if digT k p = none then 3 else 0) = 0
  rw [hz]
  rfl
/-- All of Find: the error's number, and the two texts. -/
def findX (x : Int) (p q : Tr) : Nat × (List Int × List Int) :=
  if toldD x p ≠ 0 then (toldD x p, [], [])
  else if toldD x q ≠ 0 then (toldD x q, [], [])
  else if digT x.toNat p ≠ digT x.toNat q then (6, [], [])
  else match searchP x.toNat (toP p) (toP q) with
    | none => (9, [], [])
    | some s => (0, s)
theorem findX_le (x : Int) (p q : Tr) : (findX x p q).1 ≤ 13 := by
  unfold findX
  split
  · exact toldD_le x p
  · split
    · exact toldD_le x q
    · split
      · show 6 ≤ 13; omega
      · split
        · show 9 ≤ 13; omega
        · show 0 ≤ 13; omega
def tellF : Option (List Int × List Int) → Nat × (List Int × List Int)
  | none => (9, [], [])
  | some s => (0, s)
theorem findX_six {k : Nat} {p q : Tr} (h1 : toldD k p = 0) (h2 : toldD k q = 0) (hd : digT k p ≠ digT k q) : findX k p q = (6, [], []) := by
  unfold findX
  rw [if_neg (by rw [h1]; simp), if_neg (by rw [h2]; simp)]
  exact if_pos hd
theorem findX_found {k : Nat} {P Q : PT} (h1 : toldD k P.tr = 0) (h2 : toldD k Q.tr = 0) (hd : digT k P.tr = digT k Q.tr) : findX k P.tr Q.tr = tellF (searchP k P Q) := by
  unfold findX
  rw [if_neg (by rw [h1]; simp), if_neg (by rw [h2]; simp)]
  have e : (if digT (k : Int).toNat P.tr ≠ digT (k : Int).toNat Q.tr then ((6, [], []) : Nat × (List Int × List Int)) else (match searchP (k : Int).toNat (toP P.tr) (toP Q.tr) with | none => (9, [], []) | some s => (0, s))) = (match searchP (k : Int).toNat (toP P.tr) (toP Q.tr) with | none => (9, [], []) | some s => (0, s)) := if_neg (fun q => q hd)
  refine Eq.trans e ?_
  rw [toP_tr, toP_tr]
  show (match searchP k P Q with | none => (9, [], []) | some s => (0, s)) = _
  cases searchP k P Q <;> rfl
/-- Find's answer: two texts in new memory. -/
def FindTold (w : World) (r : Nat × (List Int × List Int)) (e : Ending) (w' : World) : Prop := ∃ a n c a' n' c', e = .returned (.tuple #[.slice a n c, .slice a' n' c', codeV r.1]) ∧ FreshB w.heap.size w'.heap.size w' a n c r.2.1 ∧ FreshB w.heap.size w'.heap.size w' a' n' c' r.2.2 ∧ Below w.heap.size w w'
end Go.Proofs.YtioifkbkllnkgaaDoor

/- The parts of what is formed are short. No program is named here. -/
namespace Go.Proofs.YtioifkbkllnkgaaDoor
open Go.RowKit
set_option linter.unusedVariables false

theorem part_lens80 {t : Tr} (hp : partB t = true) : t.key.length ≤ 80 ∧ t.val.length ≤ 1024 := by
  unfold partB at hp
  split at hp
  · simp only [Bool.and_eq_true, decide_eq_true_eq] at hp; omega
  · split at hp
    · simp only [Bool.and_eq_true, decide_eq_true_eq] at hp; omega
    · split at hp
      · simp only [Bool.and_eq_true, decide_eq_true_eq] at hp; omega
      · split at hp
        · simp only [Bool.and_eq_true, decide_eq_true_eq] at hp; omega
        · cases hp
end Go.Proofs.YtioifkbkllnkgaaDoor

/- What a check tells, of what is shown; keys are short. No program is named here. -/
namespace Go.Proofs.YtioifkbkllnkgaaDoor
open Go.RowKit
set_option linter.unusedVariables false

def tellR : Option (List KV) → Nat × List KV
  | none => (8, [])
  | some l => (0, l)
end Go.Proofs.YtioifkbkllnkgaaDoor

/- The contract of the document's list of nodes. -/
namespace Go.Proofs.YtioifkbkllnkgaaDoor
open Go.RowKit
set_option linter.unusedVariables false

theorem count_two {t : Tr} (h2 : t.kids.length = 2) : countT t = 1 + countT (t.kids[0]'(by omega)) + countT (t.kids[1]'(by omega)) := by
  rw [countT_eq, sum_two (by rw [List.length_map]; exact h2), List.getElem_map, List.getElem_map]
  omega
theorem list_len : ∀ t : Tr, formedT t = true → (listT t).length ≤ countT t := by
  intro t
  induction t using Tr.ind with
  | h t ih =>
  intro hf
  obtain ⟨hp, hk⟩ := formed_kids hf
  rcases part_kids hp with ⟨h0, _⟩ | ⟨h2, _⟩
  · rw [listT_0 h0]
    exact Nat.zero_le _
  · rw [listT_2 h2, count_two h2]
    have i0 := ih _ (List.getElem_mem (by omega : 0 < t.kids.length)) (hk 0 (by omega))
    have i1 := ih _ (List.getElem_mem (by omega : 1 < t.kids.length)) (hk 1 (by omega))
    simp only [List.length_append, List.length_cons]
    omega

end Go.Proofs.YtioifkbkllnkgaaDoor

/- Rows of trees: the cells of the i-th; their heads. No program is named here. -/
namespace Go.Proofs.YtioifkbkllnkgaaDoor
open Go.RowKit
set_option linter.unusedVariables false

/-- The cells of the i-th tree of a row. -/
theorem OwnT.at {W : World} {base : Nat} {ty : TypeId} {a : Option Addr} {n c : Nat} {hs : List TH} (h : OwnT W base ty (.slice a n c) hs) (hl : hs.length = n) (i : Nat) (hi : i < hs.length) :
    ∃ g, a = some ⟨g, 0, none⟩ ∧ W.cell? ⟨g, i * 5, none⟩ = some (.int .i64 (hs[i]).k) ∧ W.cell? ⟨g, i * 5 + 1, none⟩ = some (.slice (hs[i]).ka (hs[i]).kn (hs[i]).kc) ∧ W.cell? ⟨g, i * 5 + 2, none⟩ = some (.slice (hs[i]).va (hs[i]).vn (hs[i]).vc) ∧ W.cell? ⟨g, i * 5 + 3, none⟩ = some (.slice (hs[i]).da (hs[i]).dn (hs[i]).dc) ∧ W.cell? ⟨g, i * 5 + 4, none⟩ = some (.slice (hs[i]).ta (hs[i]).tn (hs[i]).tc) := by
  rcases h.form with ⟨_, h2⟩ | ⟨g, c', h1, _, _, _, _, hc⟩
  · rw [h2] at hi
    simp at hi
  · injection h1 with h1
    refine ⟨g, h1, ?_, ?_, ?_, ?_, ?_⟩
    · exact hc _ _ (cellsT_get hs i 0 hi (by omega))
    · exact hc _ _ (cellsT_get hs i 1 hi (by omega))
    · exact hc _ _ (cellsT_get hs i 2 hi (by omega))
    · exact hc _ _ (cellsT_get hs i 3 hi (by omega))
    · exact hc _ _ (cellsT_get hs i 4 hi (by omega))
theorem Heads.lower {w w' : World} {hs : List TH} {ts : List Tr} (h : Heads w hs ts) (hb : Below w.heap.size w w') : Heads w' hs ts := ⟨h.1, fun i h1 h2 => (h.2 i h1 h2).lower hb⟩
end Go.Proofs.YtioifkbkllnkgaaDoor

/- The row of a tree's nodes, and the i-th of them. No program is named here. -/
namespace Go.Proofs.YtioifkbkllnkgaaDoor
open Go.RowKit
set_option linter.unusedVariables false

theorem check_zeroR {t : Tr} (h : checkT t = 0) : formedT t = true ∧ deepT t 64 = false := by
  unfold checkT at h
  split at h
  · cases h
  · split at h
    · exact ⟨by assumption, by rename_i q _; simpa using q⟩
    · cases h
/-- A row of trees, and the memory that was there. -/
structure LS (w W : World) (a : Option Addr) (n c : Nat) (hs : List TH) (ts : List Tr) : Prop where
  o : OwnT W w.heap.size 25 (.slice a n c) hs
  hh : Heads W hs ts
  b : Below w.heap.size w W
theorem LS.cells {w W : World} {g n c : Nat} {hs : List TH} {ts : List Tr} (x : LS w W (some ⟨g, 0, none⟩) n c hs ts) (hl : hs.length = n) (i : Nat) (hi : i < hs.length) : W.cell? ⟨g, i * 5, none⟩ = some (.int .i64 (hs[i]).k) ∧ W.cell? ⟨g, i * 5 + 1, none⟩ = some (.slice (hs[i]).ka (hs[i]).kn (hs[i]).kc) ∧ W.cell? ⟨g, i * 5 + 2, none⟩ = some (.slice (hs[i]).va (hs[i]).vn (hs[i]).vc) ∧ W.cell? ⟨g, i * 5 + 3, none⟩ = some (.slice (hs[i]).da (hs[i]).dn (hs[i]).dc) ∧ W.cell? ⟨g, i * 5 + 4, none⟩ = some (.slice (hs[i]).ta (hs[i]).tn (hs[i]).tc) := by
  obtain ⟨g', e, h⟩ := x.o.at hl i hi
  injection e with e
  injection e with e
  subst e
  exact h
/-- The row, and the parts of one of its trees. -/
structure LN (w W : World) (a : Option Addr) (n c : Nat) (hs : List TH) (ts : List Tr) (hh : TH) (x : AT) (H : Nat → TH) : Prop where
  s : LS w W a n c hs ts
  p : TreeAt W hh x.tr H
end Go.Proofs.YtioifkbkllnkgaaDoor

/- What is found is short, and right. No program is named here. -/
namespace Go.Proofs.YtioifkbkllnkgaaDoor
open Go.RowKit
set_option linter.unusedVariables false

theorem own_short {k : Nat} (hk : k ≤ 32) {p : PT} (hc : p.isCut = false) (ok : p.okP k) : (p.ownP k).length ≤ 2000 := by
  rcases p.tri hc with rfl | hn
  · exact Nat.le_of_ble_eq_true rfl
  · have q := PT.node_ok hk hn ok
    rw [PT.node_own hn, nodeL_len, PT.dg_len hk _ q.1, PT.dg_len hk _ q.2.1, take_sum_len hk]
    omega
theorem pair_short {k : Nat} (hk : k ≤ 32) {p : PT} (hn : p.isNode = true) (ok : p.okP k) (hf : formedT p.tr = true) : (p.pairP k).length ≤ 2000 := by
  have q := (PT.node_ok hk hn ok).2.2
  have l := part_lens80 (formed_kids hf).1
  rw [PT.node_pair hn]
  have := pairL_len (a := p.tr.key) (b := valT k p.tr) (by omega)
  omega
theorem search_short {k : Nat} (hk : k ≤ 32) : ∀ (p q : PT), formedT p.tr = true → formedT q.tr = true → p.okP k → q.okP k → ∀ s, searchP k p q = some s → s.1.length ≤ 2000 ∧ s.2.length ≤ 2000 := by
  intro p
  induction p using PT.ind2 with
  | h p ih =>
  intro q fp fq op oq s hs
  cases hc : p.isCut with
  | true =>
    rw [search_cut_l hc] at hs
    cases hs
  | false =>
  cases hc2 : q.isCut with
  | true =>
    rw [search_cut_r p hc2] at hs
    cases hs
  | false =>
  cases ho : (p.ownP k == q.ownP k) with
  | false =>
    rw [search_own hc hc2 ho] at hs
    injection hs with hs
    subst hs
    exact ⟨own_short hk hc op, own_short hk hc2 oq⟩
  | true =>
  rcases p.tri hc with rfl | hn
  · rw [search_both_nil hc2 ho] at hs
    cases hs
  have hn2 : q.isNode = true := PT.other_node hn hc2 (by simpa using ho)
  cases hp : (p.pairP k == q.pairP k) with
  | false =>
    rw [search_pair hn hc2 ho hp] at hs
    injection hs with hs
    subst hs
    exact ⟨pair_short hk hn op fp, pair_short hk hn2 oq fq⟩
  | true =>
  cases hv : p.valsB q with
  | true =>
    rw [search_val hn hc2 ho hp hv] at hs
    injection hs with hs
    subst hs
    have l1 := (part_lens80 (formed_kids fp).1).2
    have l2 := (part_lens80 (formed_kids fq).1).2
    have h := hv
    rw [PT.vals_eq, Bool.and_eq_true, Bool.and_eq_true] at h
    rw [PT.sval_of p h.1.1, PT.sval_of q h.1.2]
    constructor
    · show (valL p.tr.val).length ≤ 2000
      rw [valL_len]
      omega
    · show (valL q.tr.val).length ≤ 2000
      rw [valL_len]
      omega
  | false =>
    rw [search_rest hn hc2 ho hp hv] at hs
    have a := PT.node_ok hk hn op
    have b := PT.node_ok hk hn2 oq
    have c := PT.formed_kids hn fp
    have d := PT.formed_kids hn2 fq
    cases h1 : searchP k p.left q.left with
    | some x =>
      rw [h1] at hs
      injection hs with hs
      subst hs
      exact (ih hn).1 q.left c.1 d.1 a.1 b.1 x h1
    | none =>
      rw [h1] at hs
      exact (ih hn).2 q.right c.2 d.2 a.2.1 b.2.1 s hs
/-- Two texts were found. -/
structure Found (x : Int) (p q : Tr) (k : Nat) (s : List Int × List Int) : Prop where
  hx : x = k
  k1 : 1 ≤ k
  k2 : k ≤ 32
  is : findX x p q = (0, s)
  ne : s.1 ≠ s.2
  eq : (sumL s.1).take k = (sumL s.2).take k
  l1 : s.1.length ≤ 2000
  l2 : s.2.length ≤ 2000
theorem found_of {k : Nat} (h1 : 1 ≤ k) (h2 : k ≤ 32) {P Q : PT} (fp : formedT P.tr = true) (fq : formedT Q.tr = true) (t1 : toldD k P.tr = 0) (t2 : toldD k Q.tr = 0) (hd : digT k P.tr = digT k Q.tr) {s : List Int × List Int} (hs : searchP k P Q = some s) : Found k P.tr Q.tr k s := by
  obtain ⟨k', zs, e1, -, -, -, z1⟩ := toldD_zero t1
  obtain ⟨k'', ys, e2, -, -, -, z2⟩ := toldD_zero t2
  obtain rfl : k' = k := by omega
  obtain rfl : k'' = k' := by omega
  have o1 := PT.ok_of h2 P zs z1
  have o2 := PT.ok_of h2 Q ys z2
  have hdg : P.dgP k'' = Q.dgP k'' := by
    rw [PT.dg_ok h2 P o1, PT.dg_ok h2 Q o2] at hd
    injection hd
  have r := search_right h2 P Q o1 o2 (PT.short_of P fp) (PT.short_of Q fq) hdg s hs
  have l := search_short h2 P Q fp fq o1 o2 s hs
  refine ⟨rfl, h1, h2, ?_, r.1, r.2, l.1, l.2⟩
  rw [findX_found t1 t2 hd, hs]
  rfl
theorem findX_zero {x : Int} {p q : Tr} (h : (findX x p q).1 = 0) : ∃ k s, Found x p q k s := by
  have hp : toldD x p = 0 := by
    by_cases c : toldD x p = 0
    · exact c
    · unfold findX at h
      rw [if_pos c] at h
      exact absurd h c
  have hq : toldD x q = 0 := by
    by_cases c : toldD x q = 0
    · exact c
    · unfold findX at h
      rw [if_neg (by rw [hp]; simp), if_pos c] at h
      exact absurd h c
  obtain ⟨k, zs, rfl, h1, h2, c1, z1⟩ := toldD_zero hp
  obtain ⟨k', ys, e, -, -, c2, z2⟩ := toldD_zero hq
  obtain rfl : k' = k := by omega
  have fp := (check_zeroR c1).1
  have fq := (check_zeroR c2).1
  have hd : digT k' p = digT k' q := by
    by_cases c : digT k' p = digT k' q
    · exact c
    · rw [findX_six hp hq c] at h
      cases h
  obtain ⟨P, rfl⟩ := PT.of p fp
  obtain ⟨Q, rfl⟩ := PT.of q fq
  cases hs : searchP k' P Q with
  | none =>
    rw [findX_found hp hq hd, hs] at h
    cases h
  | some s => exact ⟨k', s, found_of h1 h2 fp fq hp hq hd hs⟩
end Go.Proofs.YtioifkbkllnkgaaDoor

/- Two proofs of one digest that are taken for one span, and in which nothing is found, tell the same pairs. No program is named here. -/
namespace Go.Proofs.YtioifkbkllnkgaaDoor
set_option linter.unusedVariables false

/-- In a tree whose left part is hidden and the tree nothing is found. -/
theorem search_left {k : Nat} {l : PT} {key v : List Int} {r : PT} : searchP k (.shown (.cut (l.dgP k)) key v r) (.shown l key v r) = none := by
  rw [search_node (p := .shown (.cut (l.dgP k)) key v r) rfl node_nil]
  unfold stepS
  rw [if_neg (by simp [PT.isCut]), if_neg (by simp [PT.ownP, PT.dgP]), if_neg (by simp [PT.pairP]), if_neg (by simp [PT.sval])]
  exact search_same r
theorem search_left' {k : Nat} {l : PT} {key d : List Int} {r : PT} : searchP k (.dark (.cut (l.dgP k)) key d r) (.dark l key d r) = none := by
  rw [search_node (p := .dark (.cut (l.dgP k)) key d r) rfl node_nil]
  unfold stepS
  rw [if_neg (by simp [PT.isCut]), if_neg (by simp [PT.ownP, PT.dgP]), if_neg (by simp [PT.pairP]), if_neg (by simp [PT.sval])]
  exact search_same r
/-- The items, by kind. -/
def PT.items : PT → List IT
  | .nil => []
  | .cut _ => [⟨true, false, [], []⟩]
  | .shown l key v r => l.items ++ (⟨false, false, key, v⟩ :: r.items)
  | .dark l key _ r => l.items ++ (⟨false, true, key, []⟩ :: r.items)
theorem PT.items_tr : ∀ p : PT, itemsT p.tr = p.items := by
  intro p
  induction p with
  | nil => exact itemsT_0 rfl
  | cut d => exact itemsT_3 rfl
  | shown l key v r ihl ihr =>
    have e : itemsT (PT.shown l key v r).tr = itemsT l.tr ++ (⟨false, false, key, v⟩ :: itemsT r.tr) := items_two 1 key v [] _ _ (by decide) (by decide)
    rw [e, ihl, ihr]
    rfl
  | dark l key d r ihl ihr =>
    have e : itemsT (PT.dark l key d r).tr = itemsT l.tr ++ (⟨false, true, key, []⟩ :: itemsT r.tr) := items_two 2 key [] d _ _ (by decide) (by decide)
    rw [e, ihl, ihr]
    rfl
/-- Its keys, by their order. -/
def PT.keysP : PT → List (List Int)
  | .nil => []
  | .cut _ => []
  | .shown l key _ r => l.keysP ++ (key :: r.keysP)
  | .dark l key _ r => l.keysP ++ (key :: r.keysP)
theorem PT.keys_items : ∀ p : PT, (keysI p.items).map (·.key) = p.keysP := by
  have two : ∀ (x y : List IT) (d : Bool) (key z : List Int), keysI (x ++ (⟨false, d, key, z⟩ :: y)) = keysI x ++ (⟨false, d, key, z⟩ :: keysI y) := fun x y d key z => by
    unfold keysI
    rw [List.filter_append, List.filter_cons]
    rfl
  intro p
  induction p with
  | nil => rfl
  | cut d => rfl
  | shown l key v r ihl ihr =>
    rw [PT.items, two, List.map_append, List.map_cons, ihl, ihr]
    rfl
  | dark l key d r ihl ihr =>
    rw [PT.items, two, List.map_append, List.map_cons, ihl, ihr]
    rfl
/-- Is the span covered, between two keys? -/
def coverP (f t : List Int) (o : Bool) : PT → List Int → Bool → List Int → Bool → Bool
  | .nil, _, _, _, _ => true
  | .cut _, low, hl, high, hh => emptyS f t o low high hl hh
  | .shown l key _ r, low, hl, high, hh => coverP f t o l low hl key true && coverP f t o r key true high hh
  | .dark l key _ r, low, hl, high, hh => coverP f t o l low hl key true && (!inS f t o key && coverP f t o r key true high hh)
/-- The pairs that are told in the span. -/
def toldP (f t : List Int) (o : Bool) : PT → List KV
  | .nil => []
  | .cut _ => []
  | .shown l key v r => toldP f t o l ++ ((if inS f t o key then [(key, v)] else []) ++ toldP f t o r)
  | .dark l _ _ r => toldP f t o l ++ toldP f t o r
theorem scan_cover (f t : List Int) (o : Bool) : ∀ (p : PT) (low : List Int) (has : Bool) (rest : List IT) (kv : List KV), scanI f t o low has (p.items ++ rest) = some kv →
    coverP f t o p low has (nextI rest).1 (nextI rest).2 = true ∧ ∃ kv', scanI f t o (lastI low has p.items).1 (lastI low has p.items).2 rest = some kv' ∧ kv = toldP f t o p ++ kv' := by
  intro p
  induction p with
  | nil => exact fun low has rest kv h => ⟨rfl, kv, h, rfl⟩
  | cut d =>
    intro low has rest kv h
    have e : scanI f t o low has (⟨true, false, [], []⟩ :: rest) = some kv := h
    rw [scan_cut rfl] at e
    split at e
    · rename_i he
      exact ⟨he, kv, e, rfl⟩
    · cases e
  | shown l key v r ihl ihr =>
    intro low has rest kv h
    rw [PT.items, List.append_assoc, List.cons_append] at h
    obtain ⟨c1, kv1, h1, rfl⟩ := ihl low has _ kv h
    rw [scan_key rfl] at h1
    have el : lastI low has (PT.shown l key v r).items = lastI key true r.items := by
      rw [PT.items, last_app]
      rfl
    rw [el]
    cases hi : inS f t o key with
    | true =>
      rw [hi, if_pos rfl, if_neg (by simp), Option.map_eq_some_iff] at h1
      obtain ⟨kv2, h2, rfl⟩ := h1
      obtain ⟨c2, kv3, h3, rfl⟩ := ihr key true rest kv2 h2
      refine ⟨?_, kv3, h3, ?_⟩
      · have c1' : coverP f t o l low has key true = true := c1
        rw [coverP, c1', c2]
        rfl
      · rw [toldP, hi, if_pos rfl]
        simp
    | false =>
      rw [hi, if_neg (by simp)] at h1
      obtain ⟨c2, kv3, h3, rfl⟩ := ihr key true rest kv1 h1
      refine ⟨?_, kv3, h3, ?_⟩
      · have c1' : coverP f t o l low has key true = true := c1
        rw [coverP, c1', c2]
        rfl
      · rw [toldP, hi, if_neg (by simp)]
        simp
  | dark l key d r ihl ihr =>
    intro low has rest kv h
    rw [PT.items, List.append_assoc, List.cons_append] at h
    obtain ⟨c1, kv1, h1, rfl⟩ := ihl low has _ kv h
    rw [scan_key rfl] at h1
    have el : lastI low has (PT.dark l key d r).items = lastI key true r.items := by
      rw [PT.items, last_app]
      rfl
    rw [el]
    cases hi : inS f t o key with
    | true =>
      rw [hi, if_pos rfl, if_pos rfl] at h1
      cases h1
    | false =>
      rw [hi, if_neg (by simp)] at h1
      obtain ⟨c2, kv3, h3, rfl⟩ := ihr key true rest kv1 h1
      refine ⟨?_, kv3, h3, ?_⟩
      · have c1' : coverP f t o l low has key true = true := c1
        rw [coverP, c1', c2, hi]
        rfl
      · rw [toldP]
        simp
/-- Where nothing is left, no key is in the span. -/
theorem empty_no {f t low high x : List Int} {o hl hh : Bool} (hb : Bytes8 x) (h : emptyS f t o low high hl hh = true) (h1 : hl = true → ltL low x = true) (h2 : hh = true → ltL x high = true) : inS f t o x = false := by
  cases hi : inS f t o x with
  | false => rfl
  | true =>
    exfalso
    unfold inS at hi
    rw [Bool.and_eq_true, Bool.not_eq_true', Bool.or_eq_true] at hi
    have hge : ltL x (leastS f low hl) = false := by
      unfold leastS
      split
      · rename_i c
        rw [Bool.and_eq_true] at c
        rw [lt_zero low x hb, h1 c.1]
        rfl
      · exact hi.1
    have below : ∀ y, ltL x y = true → ltL (leastS f low hl) y = true := fun y hy => by
      rcases ltL_three (leastS f low hl) x with c | c | c
      · exact ltL_trans c hy
      · rw [c]; exact hy
      · rw [c] at hge; cases hge
    unfold emptyS at h
    rw [Bool.or_eq_true, Bool.and_eq_true, Bool.and_eq_true, Bool.not_eq_true', Bool.not_eq_true', Bool.not_eq_true'] at h
    rcases h with ⟨a, b⟩ | ⟨a, b⟩
    · rw [below _ (h2 a)] at b
      cases b
    · rcases hi.2 with c | c
      · rw [a] at c; cases c
      · rw [below _ c] at b; cases b
/-- The keys rise, and lie between two keys. -/
def Between (l : List (List Int)) (low : List Int) (hl : Bool) (high : List Int) (hh : Bool) : Prop := (l.Pairwise fun x y => ltL x y = true) ∧ (∀ x ∈ l, (hl = true → ltL low x = true) ∧ (hh = true → ltL x high = true)) ∧ ∀ x ∈ l, Bytes8 x
theorem Between.two {a b : List (List Int)} {key low high : List Int} {hl hh : Bool} (h : Between (a ++ (key :: b)) low hl high hh) : Between a low hl key true ∧ Between b key true high hh := by
  obtain ⟨h1, h2, h3⟩ := h
  rw [List.pairwise_append] at h1
  obtain ⟨p1, p2, p3⟩ := h1
  rw [List.pairwise_cons] at p2
  refine ⟨⟨p1, fun x hx => ⟨(h2 x (by simp [hx])).1, fun _ => p3 x hx key (by simp)⟩, fun x hx => h3 x (by simp [hx])⟩, ⟨p2.2, fun x hx => ⟨fun _ => p2.1 x hx, (h2 x (by simp [hx])).2⟩, fun x hx => h3 x (by simp [hx])⟩⟩
theorem told_none {f t : List Int} {o : Bool} : ∀ (p : PT), (∀ x ∈ p.keysP, inS f t o x = false) → toldP f t o p = [] := by
  intro p
  induction p with
  | nil => exact fun _ => rfl
  | cut d => exact fun _ => rfl
  | shown l key v r ihl ihr =>
    intro h
    rw [toldP, ihl (fun x hx => h x (by simp [PT.keysP, hx])), ihr (fun x hx => h x (by simp [PT.keysP, hx])), h key (by simp [PT.keysP])]
    rfl
  | dark l key d r ihl ihr =>
    intro h
    rw [toldP, ihl (fun x hx => h x (by simp [PT.keysP, hx])), ihr (fun x hx => h x (by simp [PT.keysP, hx]))]
    rfl
/-- A hidden part tells nothing, and nothing that lies there is in the span. -/
theorem told_hidden {f t : List Int} {o : Bool} {q : PT} {low high : List Int} {hl hh : Bool} (h : emptyS f t o low high hl hh = true) (hq : Between q.keysP low hl high hh) : toldP f t o q = [] :=
  told_none q fun x hx => empty_no (hq.2.2 x hx) h (hq.2.1 x hx).1 (hq.2.1 x hx).2
theorem agree {k : Nat} (hk : k ≤ 32) (f t : List Int) (o : Bool) : ∀ (p q : PT) (low : List Int) (hl : Bool) (high : List Int) (hh : Bool), p.okP k → q.okP k → p.short → q.short → searchP k p q = none →
    coverP f t o p low hl high hh = true → coverP f t o q low hl high hh = true → Between p.keysP low hl high hh → Between q.keysP low hl high hh → toldP f t o p = toldP f t o q := by
  intro p
  induction p with
  | nil =>
    intro q low hl high hh hp hq sp sq hs cp cq bp bq
    cases q with
    | nil => rfl
    | cut d => rfl
    | shown l key v r =>
      have h : searchP k .nil (.shown l key v r) = some ([3], (PT.shown l key v r).ownP k) := by
        rw [search_nil, if_neg (by simp [PT.isCut]), if_pos (fun e => node_nil e.symm)]
      rw [h] at hs
      cases hs
    | dark l key v r =>
      have h : searchP k .nil (.dark l key v r) = some ([3], (PT.dark l key v r).ownP k) := by
        rw [search_nil, if_neg (by simp [PT.isCut]), if_pos (fun e => node_nil e.symm)]
      rw [h] at hs
      cases hs
  | cut d =>
    intro q low hl high hh hp hq sp sq hs cp cq bp bq
    rw [told_hidden (q := q) cp bq]
    rfl
  | shown l key v r ihl ihr =>
    intro q low hl high hh hp hq sp sq hs cp cq bp bq
    cases q with
    | nil =>
      have h := step_none (p := .shown l key v r) (q := .nil) rfl node_nil rfl hs
      exact absurd h.1 node_nil
    | cut d =>
      rw [told_hidden (q := .shown l key v r) cq bp]
      rfl
    | shown l' key' v' r' =>
      obtain ⟨e1, e2, e3, s1, s2⟩ := step_none (p := .shown l key v r) (q := .shown l' key' v' r') rfl node_nil rfl hs
      obtain ⟨ek, -⟩ := pairL_inj (by have := sp.2.1; omega) (by have := sq.2.1; omega) e2
      subst ek
      have ev : v = v' := e3 v v' rfl rfl
      subst ev
      rw [coverP, Bool.and_eq_true] at cp cq
      obtain ⟨b1, b2⟩ := Between.two bp
      obtain ⟨b3, b4⟩ := Between.two bq
      rw [toldP, toldP, ihl l' low hl key true hp.1 hq.1 sp.1 sq.1 s1 cp.1 cq.1 b1 b3, ihr r' key true high hh hp.2 hq.2 sp.2.2 sq.2.2 s2 cp.2 cq.2 b2 b4]
    | dark l' key' d' r' =>
      obtain ⟨e1, e2, e3, s1, s2⟩ := step_none (p := .shown l key v r) (q := .dark l' key' d' r') rfl node_nil rfl hs
      obtain ⟨ek, -⟩ := pairL_inj (by have := sp.2.1; omega) (by have := sq.2.1; omega) e2
      subst ek
      rw [coverP, Bool.and_eq_true] at cp
      rw [coverP, Bool.and_eq_true, Bool.and_eq_true, Bool.not_eq_true'] at cq
      obtain ⟨b1, b2⟩ := Between.two bp
      obtain ⟨b3, b4⟩ := Between.two bq
      rw [toldP, toldP, cq.2.1, if_neg (by simp), List.nil_append, ihl l' low hl key true hp.1 hq.1 sp.1 sq.1 s1 cp.1 cq.1 b1 b3, ihr r' key true high hh hp.2 hq.2.2 sp.2.2 sq.2.2 s2 cp.2 cq.2.2 b2 b4]
  | dark l key d r ihl ihr =>
    intro q low hl high hh hp hq sp sq hs cp cq bp bq
    cases q with
    | nil =>
      have h := step_none (p := .dark l key d r) (q := .nil) rfl node_nil rfl hs
      exact absurd h.1 node_nil
    | cut d' =>
      rw [told_hidden (q := .dark l key d r) cq bp]
      rfl
    | shown l' key' v' r' =>
      obtain ⟨e1, e2, e3, s1, s2⟩ := step_none (p := .dark l key d r) (q := .shown l' key' v' r') rfl node_nil rfl hs
      obtain ⟨ek, -⟩ := pairL_inj (by have := sp.2.1; omega) (by have := sq.2.1; omega) e2
      subst ek
      rw [coverP, Bool.and_eq_true] at cq
      rw [coverP, Bool.and_eq_true, Bool.and_eq_true, Bool.not_eq_true'] at cp
      obtain ⟨b1, b2⟩ := Between.two bp
      obtain ⟨b3, b4⟩ := Between.two bq
      rw [toldP, toldP, cp.2.1, if_neg (by simp), List.nil_append, ihl l' low hl key true hp.1 hq.1 sp.1 sq.1 s1 cp.1 cq.1 b1 b3, ihr r' key true high hh hp.2.2 hq.2 sp.2.2 sq.2.2 s2 cp.2.2 cq.2 b2 b4]
    | dark l' key' d' r' =>
      obtain ⟨e1, e2, e3, s1, s2⟩ := step_none (p := .dark l key d r) (q := .dark l' key' d' r') rfl node_nil rfl hs
      obtain ⟨ek, -⟩ := pairL_inj (by have := sp.2.1; omega) (by have := sq.2.1; omega) e2
      subst ek
      rw [coverP, Bool.and_eq_true, Bool.and_eq_true] at cp cq
      obtain ⟨b1, b2⟩ := Between.two bp
      obtain ⟨b3, b4⟩ := Between.two bq
      rw [toldP, toldP, ihl l' low hl key true hp.1 hq.1 sp.1 sq.1 s1 cp.1 cq.1 b1 b3, ihr r' key true high hh hp.2.2 hq.2.2 sp.2.2 sq.2.2 s2 cp.2.2 cq.2.2 b2 b4]
/-- What is taken: the tree is formed, has the root, its keys rise, and the span is covered. -/
theorem check_taken {k : Nat} {root f t : List Int} {o : Bool} {p : Tr} {kv : List KV} (h : checkR k root f t o p = (0, kv)) : checkT p = 0 ∧ digT k p = some root ∧ riseI (itemsT p) = true ∧ scanI f t o [] false (itemsT p) = some kv := by
  unfold checkR at h
  split at h
  · rename_i c
    injection h with h
    exact absurd h c
  · rename_i c
    split at h
    · injection h with h; cases h
    · rename_i d hd
      split at h
      · injection h with h; cases h
      · rename_i hr
        split at h
        · injection h with h; cases h
        · rename_i hri
          split at h
          · injection h with h; cases h
          · rename_i l hs
            injection h with _ h
            subst h
            refine ⟨by simpa using c, ?_, by simpa using hri, hs⟩
            rw [hd]
            simpa using hr
/-- Two proofs that are taken under one root for one span, and tell unlike pairs: something is found in them. -/
theorem clash_proves {k : Nat} (hk : k ≤ 32) {root f t : List Int} {o : Bool} {p q : PT} {kv kv' : List KV} (fp : formedT p.tr = true) (fq : formedT q.tr = true) (bp : ∀ x ∈ p.keysP, Bytes8 x) (bq : ∀ x ∈ q.keysP, Bytes8 x)
    (h : checkR k root f t o p.tr = (0, kv)) (h' : checkR k root f t o q.tr = (0, kv')) (hs : searchP k p q = none) : kv = kv' := by
  obtain ⟨-, d1, r1, s1⟩ := check_taken h
  obtain ⟨-, d2, r2, s2⟩ := check_taken h'
  rw [PT.items_tr] at r1 s1 r2 s2
  have e1 := scan_cover f t o p [] false [] kv (by rw [List.append_nil]; exact s1)
  have e2 := scan_cover f t o q [] false [] kv' (by rw [List.append_nil]; exact s2)
  obtain ⟨c1, z1, w1, rfl⟩ := e1
  obtain ⟨c2, z2, w2, rfl⟩ := e2
  rw [scanI] at w1 w2
  injection w1 with w1
  injection w2 with w2
  subst w1 w2
  have k1 : Between p.keysP [] false [] false := ⟨by rw [← PT.keys_items]; exact rise_pair r1, fun x hx => ⟨fun c => (by cases c), fun c => (by cases c)⟩, bp⟩
  have k2 : Between q.keysP [] false [] false := ⟨by rw [← PT.keys_items]; exact rise_pair r2, fun x hx => ⟨fun c => (by cases c), fun c => (by cases c)⟩, bq⟩
  rw [List.append_nil, List.append_nil]
  exact agree hk f t o p q [] false [] false (PT.ok_of hk p _ d1) (PT.ok_of hk q _ d2) (PT.short_of p fp) (PT.short_of q fq) hs c1 c2 k1 k2
end Go.Proofs.YtioifkbkllnkgaaDoor
